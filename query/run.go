package query

import (
	"slices"

	"sorites/api"
	"sorites/rel"
)

// way goes on from some step with the values of all variables that were given
// ahead of it. Each variable is given by one step alone, and set anew whenever
// that goes on, so what stands there from before is never read.
type way func(v values)

// run does the steps one within the other: from the last one to the first one
// each is told how it goes on.
func run(q api.Query, in [][][]api.Val, delta [][]api.Val) [][]api.Val {
	var given [][]api.Val
	next := func(v values) { given = append(given, v.all(q.Out)) }
	behind := varsOf(q.Out...)
	for k, s := range slices.Backward(q.Steps) {
		ahead := neededAhead(s, behind)
		if !isWithin(ahead, behind) {
			next = once(behind, next)
		}
		rows := in[s.Rel]
		if k == q.Delta {
			rows = delta
		}
		next = through(s, rows, behind, next)
		behind = ahead
	}
	next(values{})
	return rel.Sort(given)
}

// once goes on but once with the same values of the variables that are needed:
// what comes would be the same again. Without it a path of twenty edges would
// be gone through as often as there are such paths.
func once(needed []string, next way) way {
	met := map[string]struct{}{}
	return func(v values) {
		key := keyOf(v.pick(needed))
		if _, isMet := met[key]; isMet {
			return
		}
		met[key] = struct{}{}
		next(v)
	}
}

// through is the way into a step, on some rows, if the variables that are
// needed behind it are these.
func through(s api.Step, rows [][]api.Val, behind []string, next way) way {
	switch s.Op {
	case api.SHold:
		return func(v values) {
			if holds(s.How, v.of(s.X), v.of(s.Y)) {
				next(v)
			}
		}
	case api.SLet:
		return func(v values) {
			v[s.S] = v.of(s.X)
			next(v)
		}
	}
	found := tableOf(s, rows, behind)
	switch s.Op {
	case api.SScan:
		return func(v values) {
			for _, row := range found[keyOf(v.all(s.Terms))] {
				v.take(s, row)
				next(v)
			}
		}
	case api.SNone:
		return func(v values) {
			if len(found[keyOf(v.all(s.Terms))]) == 0 {
				next(v)
			}
		}
	}
	return func(v values) {
		if val, is := v.fold(s, found[keyOf(v.all(s.Terms))]); is {
			v.goOnWith(val, s, next)
		}
	}
}

// fold is what an SFold comes to over some rows, if it comes to something.
func (v values) fold(s api.Step, rows [][]api.Val) (api.Val, bool) {
	n := int64(0)
	for k, row := range rows {
		v.take(s, row)
		y := v.of(s.Y).N
		switch {
		case s.How == api.LCount:
			n++
		case s.How == api.LSum:
			n += y
		case k == 0:
			n = y
		case s.How == api.LMin:
			n = min(n, y)
		default:
			n = max(n, y)
		}
	}
	return api.Val{N: n}, len(rows) > 0 || s.How == api.LCount || s.How == api.LSum
}

func (v values) goOnWith(val api.Val, s api.Step, next way) {
	if s.S != "" {
		v[s.S] = val
	} else if v.of(s.X) != val {
		return
	}
	next(v)
}

func holds(how int, x, y api.Val) bool {
	c := rel.Compare([]api.Val{x}, []api.Val{y})
	switch how {
	case api.LEq:
		return c == 0
	case api.LNe:
		return c != 0
	case api.LLt:
		return c < 0
	}
	return c <= 0
}
