package dread

import (
	"slices"

	"sorites/api"
)

func (r *reader) rule() error {
	if len(r.prog.Rules) == api.MaxRules {
		return r.fail(api.ErrLong)
	}
	first := r.here()
	head, err := r.atom()
	if err != nil {
		return err
	}
	if slices.ContainsFunc(head.L, isNoneOfHeads) {
		return faultAt(first, api.ErrParse)
	}
	var body []api.Lit
	if r.skip(":-") {
		if body, err = list(r, api.MaxBody, r.part); err != nil {
			return err
		}
	}
	if err := r.signs("."); err != nil {
		return err
	}
	if len(body) == 0 && slices.ContainsFunc(head.L, isVariable) {
		return faultAt(first, api.ErrParse)
	}
	r.prog.Rules = append(r.prog.Rules, api.Rule{Head: head, Body: body, Line: first.Line})
	return nil
}

func isVariable(t api.Term) bool { return t.Op == api.OVar }

func isNoneOfHeads(t api.Term) bool {
	return t.Op != api.OVar && t.Op != api.OInt && t.Op != api.OSym
}

func (r *reader) atom() (api.Atom, error) {
	rel, l, err := named(r, r.argument)
	if err != nil {
		return api.Atom{}, err
	}
	return api.Atom{Rel: rel, L: l}, nil
}

func (r *reader) argument() (api.Term, error) {
	if t := r.here(); t.Kind == api.DIdent && t.S == "_" {
		r.step()
		return api.Term{Op: api.OAny}, nil
	}
	return r.expression()
}

func (r *reader) part() (api.Lit, error) {
	l := api.Lit{Op: api.LAtom}
	switch {
	case r.skip("!"):
		l.Op = api.LNot
		fallthrough
	case isName(r.here()) && isSign(r.further(1), "("):
		return r.withAtom(l)
	}
	return r.held()
}

func (r *reader) withAtom(l api.Lit) (api.Lit, error) {
	a, err := r.atom()
	if err != nil {
		return api.Lit{}, err
	}
	l.A = a
	return l, nil
}

// held reads two expressions and what stands between them, or an aggregate,
// which begins alike.
func (r *reader) held() (api.Lit, error) {
	x, err := r.expression()
	if err != nil {
		return api.Lit{}, err
	}
	sign := r.here()
	if !holds(sign) {
		return api.Lit{}, r.fail(api.ErrParse)
	}
	r.step()
	if op := r.aggregateHere(); op != 0 && sign.S == "=" && (x.Op == api.OVar || x.Op == api.OInt) {
		r.step()
		return r.aggregate(op, x)
	}
	y, err := r.expression()
	if err != nil {
		return api.Lit{}, err
	}
	return twoHeld(sign.S, x, y), nil
}

func holds(t api.Tok) bool {
	switch t.S {
	case "=", "!=", "<", "<=", ">", ">=":
		return t.Kind == api.DSign
	}
	return false
}

func twoHeld(sign string, x, y api.Term) api.Lit {
	switch sign {
	case "=":
		return api.Lit{Op: api.LEq, X: x, Y: y}
	case "!=":
		return api.Lit{Op: api.LNe, X: x, Y: y}
	case ">":
		x, y = y, x
		fallthrough
	case "<":
		return api.Lit{Op: api.LLt, X: x, Y: y}
	case ">=":
		x, y = y, x
	}
	return api.Lit{Op: api.LLe, X: x, Y: y}
}

// aggregateHere is which aggregate stands where the reader does, or 0. A name
// behind sum, min or max is enough, for nothing else goes on so: if there is
// no colon behind it, that is what is wrong, and not the name.
func (r *reader) aggregateHere() int {
	word, next := r.here(), r.further(1)
	switch {
	case word.Kind != api.DIdent:
		return 0
	case word.S == "count" && isSign(next, ":"):
		return api.LCount
	case word.S == "sum" && isName(next):
		return api.LSum
	case word.S == "min" && isName(next):
		return api.LMin
	case word.S == "max" && isName(next):
		return api.LMax
	}
	return 0
}

// aggregate reads what stands behind the aggregate's word.
func (r *reader) aggregate(op int, x api.Term) (api.Lit, error) {
	l := api.Lit{Op: op, X: x}
	if op != api.LCount {
		name, err := r.name()
		if err != nil {
			return api.Lit{}, err
		}
		l.Y = api.Term{Op: api.OVar, S: name}
	}
	if err := r.signs(":", "{"); err != nil {
		return api.Lit{}, err
	}
	l, err := r.withAtom(l)
	if err != nil {
		return api.Lit{}, err
	}
	if err := r.signs("}"); err != nil {
		return api.Lit{}, err
	}
	return l, nil
}
