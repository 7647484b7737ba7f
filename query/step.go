package query

import (
	"iter"
	"slices"

	"sorites/api"
	"sorites/dsafe"
	"sorites/dtype"
)

// queryOf is that of a rule that is safe and fits.
func queryOf(decls []api.Decl, r api.Rule) api.Query {
	q := api.Query{Out: copyTerms(r.Head.L), Delta: noStep}
	q.Rel, _ = dtype.Find(decls, r.Head.Rel)
	order, _ := dsafe.Order(r)
	var bound []string
	for _, place := range order {
		s := stepOf(decls, r.Body[place], bound)
		q.Steps = append(q.Steps, s)
		bound = append(bound, givenBy(s)...)
	}
	return q
}

// givenBy are the variables that are bound behind a step, but not ahead of it.
// What an SFold's columns give is the aggregate's own.
func givenBy(s api.Step) []string {
	switch {
	case s.Op == api.SScan:
		return s.Binds
	case s.S != "":
		return []string{s.S}
	}
	return nil
}

// stepOf falls from what an aggregate has beside it to what all parts with an
// atom have, and from an LEq that binds nothing to what is held.
func stepOf(decls []api.Decl, l api.Lit, bound []string) api.Step {
	s := api.Step{}
	switch l.Op {
	case api.LCount, api.LSum, api.LMin, api.LMax:
		s.How, s.Y = l.Op, copyTerm(l.Y)
		// An X that A has is outer, so it was bound.
		if isLacking(l.X, bound) {
			s.S = l.X.S
		} else {
			s.X = copyTerm(l.X)
		}
		fallthrough
	case api.LAtom, api.LNot:
		s.Op = opOf(l.Op)
		s.Rel, _ = dtype.Find(decls, l.A.Rel)
		return withColumns(s, l.A, bound)
	case api.LEq:
		if isLacking(l.X, bound) {
			return api.Step{Op: api.SLet, S: l.X.S, X: copyTerm(l.Y)}
		}
		if isLacking(l.Y, bound) {
			return api.Step{Op: api.SLet, S: l.Y.S, X: copyTerm(l.X)}
		}
		fallthrough
	default:
		return api.Step{Op: api.SHold, How: l.Op, X: copyTerm(l.X), Y: copyTerm(l.Y)}
	}
}

func isLacking(t api.Term, bound []string) bool {
	return t.Op == api.OVar && !slices.Contains(bound, t.S)
}

// opOf is what the step of a part with an atom does.
func opOf(lit int) int {
	switch lit {
	case api.LAtom:
		return api.SScan
	case api.LNot:
		return api.SNone
	}
	return api.SFold
}

// What a step does with a column.
const (
	leavesIt = iota
	takesIt  // it gives a variable
	equalsIt // to what an earlier column gives
	looksUp  // with a term's value
)

func withColumns(s api.Step, a api.Atom, bound []string) api.Step {
	for c, use := range eachUse(a, bound) {
		t := a.L[c]
		switch use {
		case takesIt:
			s.BindCols, s.Binds = append(s.BindCols, c), append(s.Binds, t.S)
		case equalsIt:
			s.EqCols, s.Eqs = append(s.EqCols, c), append(s.Eqs, t.S)
		case looksUp:
			s.Cols, s.Terms = append(s.Cols, c), append(s.Terms, copyTerm(t))
		}
	}
	return s
}

// eachUse yields what is done with each column of an atom.
func eachUse(a api.Atom, bound []string) iter.Seq2[int, int] {
	return func(yield func(int, int) bool) {
		var taken []string
		for c, t := range a.L {
			use := looksUp
			switch {
			case t.Op == api.OAny:
				use = leavesIt
			case t.Op == api.OVar && slices.Contains(taken, t.S):
				use = equalsIt
			case isLacking(t, bound):
				use = takesIt
				taken = append(taken, t.S)
			}
			if !yield(c, use) {
				return
			}
		}
	}
}

func copyTerms(l []api.Term) []api.Term {
	var terms []api.Term
	for _, t := range l {
		terms = append(terms, copyTerm(t))
	}
	return terms
}

func copyTerm(t api.Term) api.Term {
	t.L = copyTerms(t.L)
	return t
}
