package model

import (
	"iter"
	"slices"

	"sorites/api"
	"sorites/rel"
)

// way goes on from some part of a rule with values of its variables, and
// leaves them as they were. It answers false, if there is to be no more.
type way func(v values) bool

// run goes through a rule, and on with the values that there are behind its
// last part, of which some may be the same. The part at a place goes through
// what is new alone.
func (known relations) run(r plan, newAt int, last way) bool {
	next := last
	for k, at := range slices.Backward(r.parts) {
		if at.repeats && k+1 < len(r.parts) {
			next = once(at.need, next)
		}
		next = known.through(at, k == newAt, next)
	}
	return next(values{})
}

// once goes on but once with the same values of what is needed: what comes
// would be the same again. Without it a path of twenty edges would be gone
// through as often as there are such paths.
func once(need []string, next way) way {
	met := map[string]struct{}{}
	return func(v values) bool {
		key := keyOf(v.pick(need))
		if _, isMet := met[key]; isMet {
			return true
		}
		met[key] = struct{}{}
		return next(v)
	}
}

func (known relations) through(at part, isNew bool, next way) way {
	l := at.lit
	switch l.Op {
	case api.LAtom:
		return func(v values) bool { return known[at.rel].goOn(at, isNew, v, next) }
	case api.LNot:
		return func(v values) bool { return known[at.rel].isMet(l.A, v) || next(v) }
	case api.LEq:
		return func(v values) bool {
			if v.lacks(l.X) {
				return v.goOnWith(l.X, v.of(l.Y), next)
			}
			return v.goOnWith(l.Y, v.of(l.X), next)
		}
	case api.LNe, api.LLt, api.LLe:
		return func(v values) bool { return !holds(l.Op, v.of(l.X), v.of(l.Y)) || next(v) }
	}
	return func(v values) bool {
		val, is := known[at.rel].fold(l, v)
		return !is || v.goOnWith(l.X, val, next)
	}
}

func (l *relation) goOn(at part, isNew bool, v values, next way) bool {
	for w := range l.eachMeeting(at.lit.A, isNew, v) {
		if !next(w) {
			return false
		}
		if at.asks {
			return true
		}
	}
	return true
}

func (l *relation) isMet(a api.Atom, v values) bool {
	isMet := false
	for range l.eachMeeting(a, false, v) {
		isMet = true
		break
	}
	return isMet
}

// fold is what an aggregate comes to, if it comes to something.
func (l *relation) fold(of api.Lit, v values) (api.Val, bool) {
	n, rows := int64(0), 0
	for w := range l.eachMeeting(of.A, false, v) {
		y := w.of(of.Y).N
		rows++
		switch {
		case of.Op == api.LCount:
			n++
		case of.Op == api.LSum:
			n += y
		case rows == 1:
			n = y
		case of.Op == api.LMin:
			n = min(n, y)
		default:
			n = max(n, y)
		}
	}
	return number(n), rows > 0 || of.Op == api.LCount || of.Op == api.LSum
}

// eachMeeting yields, row by row, the values with which rows meet an atom:
// those that were handed in, with those of the atom's other variables beside
// them, till the next row is asked for.
func (l *relation) eachMeeting(a api.Atom, isNew bool, v values) iter.Seq[values] {
	return func(yield func(values) bool) {
		from := 0
		if isNew {
			from = l.fresh
		}
		cols, open := v.split(a)
		wanted := v.wanted(a, cols)
	rows:
		for row := range l.eachRow(from, cols, wanted) {
			v.drop(open)
			for c, t := range a.L {
				if v.lacks(t) {
					v[t.S] = row[c]
				}
				if t.Op == api.OVar && v[t.S] != row[c] {
					continue rows
				}
			}
			if !yield(v) {
				break
			}
		}
		v.drop(open)
	}
}

// split are the columns of which an atom says the value, and the variables to
// which the others give one.
func (v values) split(a api.Atom) ([]int, []string) {
	var cols []int
	var open []string
	for c, t := range a.L {
		switch {
		case v.lacks(t):
			open = append(open, t.S)
		case t.Op != api.OAny:
			cols = append(cols, c)
		}
	}
	return cols, open
}

func (v values) wanted(a api.Atom, cols []int) []api.Val {
	vals := make([]api.Val, 0, len(cols))
	for _, c := range cols {
		vals = append(vals, v.of(a.L[c]))
	}
	return vals
}

// goOnWith goes on, if a term has a value, or, if it is a variable that is not
// bound, with that.
func (v values) goOnWith(t api.Term, val api.Val, next way) bool {
	if !v.lacks(t) {
		return v.of(t) != val || next(v)
	}
	v[t.S] = val
	goesOn := next(v)
	delete(v, t.S)
	return goesOn
}

func holds(op int, x, y api.Val) bool {
	c := rel.Compare([]api.Val{x}, []api.Val{y})
	switch op {
	case api.LNe:
		return c != 0
	case api.LLt:
		return c < 0
	}
	return c <= 0
}
