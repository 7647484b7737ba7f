package query_test

import (
	"math"
	"reflect"
	"slices"
	"testing"

	"sorites/api"
	"sorites/query"
)

// rich has a step of each kind, with all that such ones may have.
const rich = decls + `b(n, y) :- e(x, 1, x), c("q", m), y = x + 2 * m, !e(y, _, x - 1), n = sum z : { e(z, y, z) }, 7 = count : { b(x, _) }, x < y, a(n).
a(1).
`

// copied has new memory for all lists, and for those that are empty no list at
// all, or, if isFull, one of no things.
func copied(v reflect.Value, isFull bool) reflect.Value {
	w := reflect.New(v.Type()).Elem()
	w.Set(v)
	switch v.Kind() {
	case reflect.Struct:
		for i := range v.NumField() {
			w.Field(i).Set(copied(v.Field(i), isFull))
		}
	case reflect.Slice:
		w.SetZero()
		if v.Len() > 0 || isFull {
			w.Set(reflect.MakeSlice(v.Type(), v.Len(), v.Len()))
		}
		for i := range v.Len() {
			w.Index(i).Set(copied(v.Index(i), isFull))
		}
	}
	return w
}

func copyOf[T any](x T, isFull bool) T {
	return copied(reflect.ValueOf(x), isFull).Interface().(T)
}

// change hands on a query once for each way of changing one thing in it: a
// number, a text, a list by one thing less, or more, or two of them the other
// way round. What it has been changed in, is as before behind that.
func change(v reflect.Value, name string, hand func(name string)) {
	was := reflect.New(v.Type()).Elem()
	was.Set(v)
	set := func(w reflect.Value, how string) {
		v.Set(w)
		hand(name + how)
		v.Set(was)
	}
	switch v.Kind() {
	case reflect.Int, reflect.Int64:
		for _, n := range []int64{v.Int() + 1, v.Int() - 1, 0, -1, math.MinInt64, math.MaxInt64} {
			if n != v.Int() {
				set(reflect.ValueOf(n).Convert(v.Type()), " another number")
			}
		}
	case reflect.String:
		set(reflect.ValueOf(v.String()+"x"), " longer")
		if v.Len() > 0 {
			set(reflect.ValueOf(""), " empty")
		}
	case reflect.Struct:
		for i := range v.NumField() {
			change(v.Field(i), name+"."+v.Type().Field(i).Name, hand)
		}
	case reflect.Slice:
		n := v.Len()
		longer := reflect.Append(v.Slice3(0, n, n), reflect.Zero(v.Type().Elem()))
		set(longer, " longer")
		if n > 0 {
			set(v.Slice(0, n-1), " shorter")
			set(v.Slice(1, n), " later")
			set(reflect.AppendSlice(v.Slice3(0, n, n), v), " twice")
			set(reflect.Zero(v.Type()), " empty")
		}
		for i := range n {
			change(v.Index(i), name+"["+string(rune('0'+i))+"]", hand)
		}
		turned := reflect.MakeSlice(v.Type(), n, n)
		for i := range n {
			turned.Index(i).Set(v.Index(n - 1 - i))
		}
		if n > 0 && !reflect.DeepEqual(turned.Interface(), v.Interface()) {
			set(turned, " turned")
		}
	}
}

// P11.2: no query of the program's rules with one thing changed is one of them.
func TestQueriesThatAreNone(t *testing.T) {
	p := read(t, rich)
	in := facts()[:5]
	for k := range p.Rules {
		right := of(t, p, k)
		q := copyOf(right, false)
		n := 0
		for i, f := range []any{&q.Rel, &q.Steps, &q.Out} {
			change(reflect.ValueOf(f).Elem(), []string{"Rel", "Steps", "Out"}[i], func(name string) {
				n++
				for _, bad := range [][][][]api.Val{in, nil} {
					if got, e := query.Run(p, q, bad, nil); got != nil || e != api.ErrArg {
						t.Errorf("rule %d, %s: %v, %d", k, name, got, e)
					}
				}
			})
		}
		if got, e := query.Run(p, q, in, nil); e != api.OK || text(q) != text(right) {
			t.Errorf("rule %d: %v, %d, %s", k, got, e, text(q))
		}
		if n < 10 || k == 0 && n < 500 {
			t.Errorf("rule %d: %d changes", k, n)
		}
	}
}

// P11.2, R3: nil and empty lists are one, at each place of a query.
func TestEmptyListsOfQueries(t *testing.T) {
	p := read(t, rich)
	in := facts()[:5]
	for k := range p.Rules {
		q := of(t, p, k)
		want, _ := query.Run(p, q, in, nil)
		for _, isFull := range []bool{false, true} {
			if got, e := query.Run(p, copyOf(q, isFull), copyOf(in, isFull), nil); !same(got, want) || e != api.OK {
				t.Errorf("rule %d, %v: %v, %d, not %v", k, isFull, got, e, want)
			}
		}
		if got := of(t, copyOf(p, true), k); text(got) != text(q) {
			t.Errorf("rule %d: %s, not %s", k, text(got), text(q))
		}
	}
}

// P11.2: a query may be that of any rule, but of none of another program.
func TestQueriesOfOtherRules(t *testing.T) {
	p := read(t, decls+"a(x) :- a(x).\na(y) :- a(y).\na(x) :- b(x, _).\na(x) :- b(_, x).\na(1).\nb(x, y) :- b(x, y).\nb(x, y) :- b(x, y).")
	in := all("1 | 2", "3 4", "", "", "")
	for k, want := range []string{"1 | 2", "1 | 2", "3", "4", "1", "3 4", "3 4"} {
		if got, e := query.Run(p, of(t, p, k), in, nil); !same(got, rows(want)) || e != api.OK {
			t.Errorf("rule %d: %v, %d, not %s", k, got, e, want)
		}
	}
	for _, s := range []string{
		"a(z) :- a(z).", "a(2).", "b(1, 1).", "b(y, x) :- b(x, y).", "a(x) :- a(x), a(x).", "a(x) :- b(x, 3).", "a(x) :- b(x, x).", "a(x) :- a(x), x < 3.", "a(1) :- a(1).",
		"a(1) :- a(_).", "a(1) :- !a(_).", "a(1) :- 1 = 1.", "a(x) :- x = 1.", "a(n) :- n = count : { a(_) }.", "a(1) :- 1 = count : { a(_) }.", "s(\"a\").", "a(-1).",
	} {
		if got, e := query.Run(p, of(t, read(t, decls+s), 0), in, nil); got != nil || e != api.ErrArg {
			t.Errorf("%s: %v, %d", s, got, e)
		}
	}
	// the relations stand elsewhere, but for those of which they speak
	other := read(t, ".decl a(x: symbol)\n.decl b(x: number, y: number)\nb(x, y) :- b(x, y).")
	if got, e := query.Run(p, of(t, other, 0), in, nil); !same(got, in[1]) || e != api.OK {
		t.Errorf("%v, %d", got, e)
	}
	other = read(t, ".decl b(x: number, y: number)\n.decl a(x: number)\nb(x, y) :- b(x, y).")
	if got, e := query.Run(p, of(t, other, 0), in, nil); got != nil || e != api.ErrArg {
		t.Errorf("%v, %d", got, e)
	}
}

// P11.2: a Delta is -1, or the place of an SScan.
func TestDeltas(t *testing.T) {
	p := read(t, rich)
	in := facts()[:5]
	for k := range p.Rules {
		q := of(t, p, k)
		for _, delta := range []int{-1, 0, 1, 2, 3, 4, 5, 6, 7, 8, 9, -2, 20, math.MinInt, math.MaxInt} {
			q.Delta = delta
			want := api.ErrArg
			if delta == -1 || k == 0 && delta >= 0 && delta < len(q.Steps) && q.Steps[delta].Op == api.SScan {
				want = api.OK
			}
			if got, e := query.Run(p, q, in, nil); len(got) > 0 && e != api.OK || e != want {
				t.Errorf("rule %d, %d: %v, %d, not %d", k, delta, got, e, want)
			}
		}
	}
}

func ofOtherType(v api.Val) api.Val {
	if v.Sym {
		return num(1)
	}
	return sym("z")
}

// P11.2: rows are asked for of all relations, and new ones of the step's alone.
func TestRunOnRowsThatDoNotFit(t *testing.T) {
	p := read(t, decls+"a(x) :- b(x, y), c(_, y).")
	q := of(t, p, 0)
	right := func() [][][]api.Val { return all("1", "1 2 | 2 1", "1 2 3", "a", "a 1") }
	for s, places := range map[string][]int{
		"":              {-1, 0, 1},
		"1 1 | 1 2":     {-1, 0},
		"a 1":           {-1, 1},
		"a 1 | b 0":     {-1, 1},
		"1 | 2":         {-1},
		"1 2 3":         {-1},
		"a a":           {-1},
		"1 a":           {-1},
		"a 1 | a 2 | b": {-1},
		"1 1 | 1 1":     {-1},
		"1 2 | 1 1":     {-1},
		"a 1 | a 1":     {-1},
		"b 1 | a 2":     {-1},
	} {
		for _, delta := range []int{-1, 0, 1} {
			q.Delta = delta
			want := api.ErrFacts
			if slices.Contains(places, delta) {
				want = api.OK
			}
			if got, e := query.Run(p, q, right(), rows(s)); got != nil && e != api.OK || e != want {
				t.Errorf("%s, %d: %v, %d, not %d", s, delta, got, e, want)
			}
		}
	}
	for name, delta := range map[string][][]api.Val{
		"a nil row":            {nil},
		"an empty row":         {{}},
		"a number with a text": {{{N: 1, S: "a"}, num(1)}},
		"a number marked":      {{{N: 1, Sym: true}, num(1)}},
	} {
		for k, want := range map[int]api.Errno{-1: api.OK, 0: api.ErrFacts, 1: api.ErrFacts} {
			q.Delta = k
			if got, e := query.Run(p, q, right(), delta); got != nil && e != api.OK || e != want {
				t.Errorf("%s, %d: %v, %d, not %d", name, k, got, e, want)
			}
		}
	}
	for i := range right() {
		for name, l := range map[string][][]api.Val{
			"twice":      slices.Repeat(right()[i][:1], 2),
			"falling":    append(slices.Clone(right()[i][:1]), slices.Repeat([]api.Val{num(math.MinInt64)}, len(right()[i][0]))),
			"no values":  {{}},
			"another":    append(slices.Clone(right()[i]), []api.Val{sym("z"), sym("z"), sym("z"), sym("z")}),
			"other type": {append([]api.Val{ofOtherType(right()[i][0][0])}, right()[i][0][1:]...)},
		} {
			in := right()
			in[i] = l
			for _, delta := range []int{-1, 0} {
				q.Delta = delta
				if got, e := query.Run(p, q, in, nil); got != nil || e != api.ErrFacts {
					t.Errorf("relation %d, %s: %v, %d", i, name, got, e)
				}
			}
		}
	}
	for name, in := range map[string][][][]api.Val{"no lists": nil, "too few": right()[:4], "too many": append(right(), nil), "turned": {right()[1], right()[0], right()[2], right()[3], right()[4]}} {
		for _, delta := range []int{-1, 0} {
			q.Delta = delta
			if got, e := query.Run(p, q, in, nil); got != nil || e != api.ErrFacts {
				t.Errorf("%s: %v, %d", name, got, e)
			}
		}
	}
}

// P11.2: the first error that the promise names is told.
func TestRunOfWrongThings(t *testing.T) {
	const right = ".decl a(x: number)\na(x) :- a(x).\na(1).\n"
	p := read(t, right)
	q, none := of(t, p, 0), api.Query{}
	scan := q
	scan.Delta = 0
	notThere := q
	notThere.Delta = 1
	for _, in := range [][][][]api.Val{all("1"), all("a"), nil} {
		for _, delta := range [][][]api.Val{nil, rows("1"), rows("a"), rows("1 | 1")} {
			for s, want := range wrongs {
				for _, q := range []api.Query{q, none, scan, notThere} {
					if l, e := query.Run(read(t, right+s), q, in, delta); l != nil || e != want {
						t.Errorf("%q, %s: %v, %d, not %d", s, text(q), l, e, want)
					}
				}
			}
			for _, q := range []api.Query{none, notThere} {
				if l, e := query.Run(p, q, in, delta); l != nil || e != api.ErrArg {
					t.Errorf("%s: %v, %d", text(q), l, e)
				}
				if l, e := query.Run(api.Prog{}, q, in, delta); l != nil || e != api.ErrArg {
					t.Errorf("no rules, %s: %v, %d", text(q), l, e)
				}
				if l, e := query.Run(api.Prog{Rules: make([]api.Rule, 1)}, q, in, delta); l != nil || e != api.ErrTree {
					t.Errorf("no right rules, %s: %v, %d", text(q), l, e)
				}
			}
		}
	}
	if l, e := query.Run(p, q, all("a"), nil); l != nil || e != api.ErrFacts {
		t.Errorf("%v, %d", l, e)
	}
}

// R1: lists that hold themselves.
func TestTermsThatHoldThemselves(t *testing.T) {
	self := api.Term{Op: api.OAdd, L: make([]api.Term, 2)}
	self.L[0], self.L[1] = self, self
	p := read(t, rich)
	q := copyOf(of(t, p, 0), false)
	for i := range q.Steps {
		for _, at := range []*api.Term{&q.Steps[i].X, &q.Steps[i].Y} {
			was := *at
			*at = self
			if l, e := query.Run(p, q, facts()[:5], nil); l != nil || e != api.ErrArg {
				t.Errorf("step %d: %v, %d", i, l, e)
			}
			*at = was
		}
		for k := range q.Steps[i].Terms {
			was := q.Steps[i].Terms[k]
			q.Steps[i].Terms[k] = self
			if l, e := query.Run(p, q, facts()[:5], nil); l != nil || e != api.ErrArg {
				t.Errorf("step %d, term %d: %v, %d", i, k, l, e)
			}
			q.Steps[i].Terms[k] = was
		}
	}
	q.Out[0] = self
	if l, e := query.Run(p, q, facts()[:5], nil); l != nil || e != api.ErrArg {
		t.Errorf("%v, %d", l, e)
	}
	p.Rules[0].Body[2].Y = self
	if _, e := query.Of(p, 0); e != api.ErrTree {
		t.Error(e)
	}
	if _, e := query.Run(p, q, facts()[:5], nil); e != api.ErrTree {
		t.Error(e)
	}
}
