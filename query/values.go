package query

import "sorites/api"

// values are those of variables.
type values map[string]api.Val

// of is a term's value, if all its variables have one.
func (v values) of(t api.Term) api.Val {
	switch t.Op {
	case api.OInt:
		return api.Val{N: t.N}
	case api.OSym:
		return api.Val{Sym: true, S: t.S}
	case api.OAdd:
		return api.Val{N: v.of(t.L[0]).N + v.of(t.L[1]).N}
	case api.OSub:
		return api.Val{N: v.of(t.L[0]).N - v.of(t.L[1]).N}
	case api.OMul:
		return api.Val{N: v.of(t.L[0]).N * v.of(t.L[1]).N}
	}
	return v[t.S]
}

func (v values) all(l []api.Term) []api.Val {
	vals := make([]api.Val, 0, len(l))
	for _, t := range l {
		vals = append(vals, v.of(t))
	}
	return vals
}

func (v values) pick(names []string) []api.Val {
	vals := make([]api.Val, 0, len(names))
	for _, name := range names {
		vals = append(vals, v[name])
	}
	return vals
}

// take sets what a step's columns give.
func (v values) take(s api.Step, row []api.Val) {
	for c, name := range eachColumn(s.BindCols, s.Binds) {
		v[name] = row[c]
	}
}
