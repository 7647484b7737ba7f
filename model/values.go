package model

import "sorites/api"

func number(n int64) api.Val { return api.Val{N: n} }

func symbol(s string) api.Val { return api.Val{Sym: true, S: s} }

// values are those of the variables that are bound.
type values map[string]api.Val

func (v values) lacks(t api.Term) bool {
	_, isBound := v[t.S]
	return t.Op == api.OVar && !isBound
}

// of is a term's value, if all its variables are bound.
func (v values) of(t api.Term) api.Val {
	switch t.Op {
	case api.OInt:
		return number(t.N)
	case api.OSym:
		return symbol(t.S)
	case api.OAdd:
		return number(v.of(t.L[0]).N + v.of(t.L[1]).N)
	case api.OSub:
		return number(v.of(t.L[0]).N - v.of(t.L[1]).N)
	case api.OMul:
		return number(v.of(t.L[0]).N * v.of(t.L[1]).N)
	}
	return v[t.S]
}

func (v values) row(a api.Atom) []api.Val {
	row := make([]api.Val, 0, len(a.L))
	for _, t := range a.L {
		row = append(row, v.of(t))
	}
	return row
}

func (v values) drop(names []string) {
	for _, name := range names {
		delete(v, name)
	}
}

// pick are the values of some variables.
func (v values) pick(names []string) []api.Val {
	vals := make([]api.Val, 0, len(names))
	for _, name := range names {
		vals = append(vals, v[name])
	}
	return vals
}
