package dtree

import (
	"iter"

	"sorites/api"
	"sorites/text"
)

// eachTerm yields a term and all terms within it, each with its level, ahead
// of its parts: whoever leaves at the first wrong one never goes deeper than
// a right term is, even if a list holds itself.
func eachTerm(t api.Term) iter.Seq2[int, api.Term] {
	return func(yield func(int, api.Term) bool) {
		visit(t, 1, yield)
	}
}

// visit hands its own yield down, lest deep terms pass through as many of
// them as they have levels.
func visit(t api.Term, level int, yield func(int, api.Term) bool) bool {
	if !yield(level, t) {
		return false
	}
	for _, part := range t.L {
		if !visit(part, level+1, yield) {
			return false
		}
	}
	return true
}

func checkProg(p api.Prog) error {
	if len(p.Decls) > api.MaxDecls || len(p.Rules) > api.MaxRules {
		return errTree
	}
	for _, d := range p.Decls {
		if err := checkDecl(d); err != nil {
			return err
		}
	}
	for _, r := range p.Rules {
		if err := checkRule(r); err != nil {
			return err
		}
	}
	return nil
}

func checkDecl(d api.Decl) error {
	if !text.IsName(d.Rel) || !isCountOfColumns(len(d.Names)) || len(d.Types) != len(d.Names) {
		return errTree
	}
	for i, name := range d.Names {
		if !text.IsName(name) || d.Types[i] != api.TNum && d.Types[i] != api.TSym {
			return errTree
		}
	}
	return nil
}

func checkRule(r api.Rule) error {
	if len(r.Body) > api.MaxBody {
		return errTree
	}
	if err := checkHead(r.Head, len(r.Body) == 0); err != nil {
		return err
	}
	for _, l := range r.Body {
		if err := checkLit(l); err != nil {
			return err
		}
	}
	return nil
}

func checkHead(a api.Atom, isFact bool) error {
	for _, t := range a.L {
		switch t.Op {
		case api.OVar:
			if isFact {
				return errTree
			}
		case api.OAny, api.OAdd, api.OSub, api.OMul:
			return errTree
		}
	}
	return checkAtom(a)
}

// checkLit sets aside what it has found right, so that what falls through is
// left with what both kinds have alike.
func checkLit(l api.Lit) error {
	switch l.Op {
	case api.LSum, api.LMin, api.LMax:
		if l.Y.Op != api.OVar || checkTerms(l.Y) != nil {
			return errTree
		}
		l.Y = api.Term{}
		fallthrough
	case api.LCount:
		if l.X.Op != api.OVar && l.X.Op != api.OInt || checkTerms(l.X) != nil {
			return errTree
		}
		l.X = api.Term{}
		fallthrough
	case api.LAtom, api.LNot:
		if !sameTerm(l.X, api.Term{}) || !sameTerm(l.Y, api.Term{}) {
			return errTree
		}
		return checkAtom(l.A)
	case api.LEq, api.LNe, api.LLt, api.LLe:
		if !sameAtom(l.A, api.Atom{}) || l.X.Op == api.OAny || l.Y.Op == api.OAny {
			return errTree
		}
		return checkTerms(l.X, l.Y)
	}
	return errTree
}

func checkAtom(a api.Atom) error {
	if !text.IsName(a.Rel) || !isCountOfColumns(len(a.L)) {
		return errTree
	}
	return checkTerms(a.L...)
}

func checkTerms(l ...api.Term) error {
	var wrong error
terms:
	for _, t := range l {
		for level, part := range eachTerm(t) {
			if level > api.MaxDeep || !hasShape(part) {
				wrong = errTree
				break terms
			}
		}
	}
	return wrong
}

// hasShape tells whether a term is right but for its height and what its
// parts are within.
func hasShape(t api.Term) bool {
	switch t.Op {
	case api.OVar:
		return text.IsName(t.S) && t.N == 0 && len(t.L) == 0
	case api.OInt:
		return t.S == "" && len(t.L) == 0
	case api.OSym:
		return t.N == 0 && len(t.L) == 0
	case api.OAny:
		return t.S == "" && t.N == 0 && len(t.L) == 0
	case api.OAdd, api.OSub, api.OMul:
		return t.S == "" && t.N == 0 && len(t.L) == 2 && canBeReckoned(t.L[0]) && canBeReckoned(t.L[1])
	}
	return false
}

func canBeReckoned(t api.Term) bool { return t.Op != api.OSym && t.Op != api.OAny }

func isCountOfColumns(n int) bool { return n >= 1 && n <= api.MaxCols }
