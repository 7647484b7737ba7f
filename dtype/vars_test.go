package dtype_test

import (
	"math"
	"reflect"
	"slices"
	"strconv"
	"strings"
	"testing"

	"sorites/api"
	"sorites/dlex"
	"sorites/dread"
	"sorites/dtype"
)

func variable(s string) api.Term { return api.Term{Op: api.OVar, S: s} }
func number(n int64) api.Term    { return api.Term{Op: api.OInt, N: n} }
func symbol(s string) api.Term   { return api.Term{Op: api.OSym, S: s} }

func two(op int, a, b api.Term) api.Term { return api.Term{Op: op, L: []api.Term{a, b}} }

func atom(rel string, l ...api.Term) api.Atom { return api.Atom{Rel: rel, L: l} }

func read(t *testing.T, s string) api.Prog {
	t.Helper()
	l, _, e := dlex.Lex(s)
	if e != api.OK {
		t.Fatalf("%q: %d", s, e)
	}
	p, line, e := dread.Parse(l)
	if e != api.OK {
		t.Fatalf("%q: %d in line %d", s, e, line)
	}
	return p
}

func readRule(t *testing.T, s string) api.Rule {
	t.Helper()
	p := read(t, s)
	if len(p.Decls) != 0 || len(p.Rules) != 1 {
		t.Fatalf("%q is no rule", s)
	}
	return p.Rules[0]
}

// wrongRules are none that is right, each but for one thing.
func wrongRules() []api.Rule {
	x := variable("x")
	head, q := atom("p", x), api.Lit{Op: api.LAtom, A: atom("q", x)}
	deep := x
	for range api.MaxDeep {
		deep = two(api.OAdd, deep, x)
	}
	ring := []api.Term{{Op: api.OAdd}, {Op: api.OMul}}
	ring[0].L, ring[1].L = ring, ring
	nine := atom("q", x, x, x, x, x, x, x, x, x)
	rules := []api.Rule{
		{},
		{Head: head},
		{Head: head, Line: 3},
		{Head: atom("", x), Body: []api.Lit{q}},
		{Head: atom("p"), Body: []api.Lit{q}},
		{Head: nine, Body: []api.Lit{q}},
		{Head: atom("p", api.Term{Op: api.OAny}), Body: []api.Lit{q}},
		{Head: atom("p", two(api.OAdd, x, x)), Body: []api.Lit{q}},
		{Head: head, Body: slices.Repeat([]api.Lit{q}, api.MaxBody+1)},
	}
	for _, l := range []api.Lit{
		{},
		{Op: 11, A: q.A},
		{Op: -1, X: x, Y: x},
		{Op: api.LAtom},
		{Op: api.LAtom, A: nine},
		{Op: api.LAtom, A: q.A, X: x},
		{Op: api.LNot, A: q.A, Y: x},
		{Op: api.LNot, A: atom("q", variable("_"))},
		{Op: api.LEq, X: x},
		{Op: api.LEq, Y: x},
		{Op: api.LNe, X: x, Y: api.Term{Op: api.OAny}},
		{Op: api.LLt, X: x, Y: x, A: q.A},
		{Op: api.LLe, X: x, Y: two(api.OAdd, x, symbol("s"))},
		{Op: api.LEq, X: x, Y: deep},
		{Op: api.LEq, X: x, Y: ring[0]},
		{Op: api.LAtom, A: atom("q", ring[1])},
		{Op: api.LCount, X: x, Y: x, A: q.A},
		{Op: api.LCount, X: symbol("s"), A: q.A},
		{Op: api.LSum, X: x, A: q.A},
		{Op: api.LMin, X: x, Y: number(1), A: q.A},
		{Op: api.LMax, X: x, Y: x},
	} {
		rules = append(rules, api.Rule{Head: head, Body: []api.Lit{l}}, api.Rule{Head: head, Body: []api.Lit{q, l}})
	}
	return rules
}

// P5.1
func TestVariablesInTheirOrder(t *testing.T) {
	for s, want := range map[string]string{
		`p(1).`:                                "",
		`p("x", -3).`:                          "",
		`p(1) :- q(_, "y", 2), 1 = 2.`:         "",
		`p(b, a) :- q(a, b).`:                  "b a",
		`p(b, 1, a, b) :- q(1).`:               "b a",
		`p(1) :- q(c, _, "z", b), r(b, a, c).`: "c b a",
		`p(1) :- !q(c, b), r(a).`:              "c b a",
		`p(1) :- b = a.`:                       "b a",
		`p(1) :- b != a.`:                      "b a",
		`p(1) :- b < a.`:                       "b a",
		`p(1) :- b <= a.`:                      "b a",
		`p(1) :- b > a.`:                       "a b",
		`p(1) :- b >= a.`:                      "a b",
		`p(1) :- "s" = a, b = "s".`:            "a b",
		`p(1) :- a = count : { q(c, b, a) }.`:  "a c b",
		`p(1) :- d = sum b : { q(c, b, a) }.`:  "d b c a",
		`p(1) :- d = min b : { q(c, b, a) }.`:  "d b c a",
		`p(1) :- d = max b : { q(c, b, a) }.`:  "d b c a",
		`p(1) :- 7 = max b : { q(c, _) }.`:     "b c",
		`p(1) :- 7 = count : { q(_, 1) }.`:     "",
		`p(1) :- q(e + (d - c) * 2 * b, a).`:   "e d c b a",
		`p(1) :- (c - b) * a = (b + d) - 5.`:   "c b a d",
		`p(1) :- !q(3 * c), x = sum y : { q(y + b, a * x) }, a < c, z = z.`:                    "c x y b a z",
		`p(n, s) :- s = s, p(k, s), n = max k : { p(k, s) }, k + 1 < n.`:                       "n s k",
		`p(x, X, _x, __, x1) :- q(1).`:                                                         "x X _x __ x1",
		`count(sum) :- min(max, count), number(symbol), decl = count : { q(input) }, sum = q.`: "sum max count symbol decl input q",
		`p(` + strings.Repeat("n", 40) + `) :- q(n).`:                                          strings.Repeat("n", 40) + " n",
	} {
		r := readRule(t, s)
		if got := dtype.Vars(r); !slices.Equal(got, strings.Fields(want)) {
			t.Errorf("%q: %q, not %q", s, got, want)
		}
	}
}

// P5.1
func TestVariablesOfTheGreatestRule(t *testing.T) {
	var want []string
	fresh := func() api.Term {
		want = append(want, "v"+strconv.Itoa(len(want)))
		return variable(want[len(want)-1])
	}
	r := api.Rule{Head: api.Atom{Rel: "p"}}
	for range api.MaxCols {
		r.Head.L = append(r.Head.L, fresh())
	}
	for range api.MaxBody {
		a := api.Atom{Rel: "q"}
		for range api.MaxCols {
			high := fresh()
			for range api.MaxDeep - 1 {
				high = two(api.OSub, high, fresh())
			}
			a.L = append(a.L, high)
		}
		r.Body = append(r.Body, api.Lit{Op: api.LAtom, A: a})
	}
	if got := dtype.Vars(r); !slices.Equal(got, want) {
		t.Errorf("%d variables, not %d", len(got), len(want))
	}
}

// metIn is what variables a rule has, by a list that is searched.
func metIn(r api.Rule) []string {
	terms := slices.Clone(r.Head.L)
	for _, l := range r.Body {
		terms = append(append(terms, l.X, l.Y), l.A.L...)
	}
	var names []string
	for len(terms) > 0 {
		t := terms[0]
		terms = append(slices.Clone(t.L), terms[1:]...)
		if t.Op == api.OVar && !slices.Contains(names, t.S) {
			names = append(names, t.S)
		}
	}
	return names
}

// P5.1
func TestWrongRulesHaveNoVariables(t *testing.T) {
	for i, r := range wrongRules() {
		if got := dtype.Vars(r); len(got) != 0 {
			t.Errorf("%d: %q", i, got)
		}
	}
}

// P5.1, R3
func TestVariablesAreNewMemory(t *testing.T) {
	r := readRule(t, "p(x, y) :- q(x, y), z = x + 1.")
	want := []string{"x", "y", "z"}
	a := dtype.Vars(r)
	for i := range a[:cap(a)] {
		a[:cap(a)][i] = "changed"
	}
	if b := dtype.Vars(r); !slices.Equal(b, want) {
		t.Errorf("%q", b)
	}
	r.Head.L[0].S = "w"
	if b := dtype.Vars(r); !slices.Equal(b, []string{"w", "y", "x", "z"}) {
		t.Errorf("%q", b)
	}
}

// P5.1
func TestFind(t *testing.T) {
	decls := []api.Decl{{Rel: "e"}, {Rel: "p", Line: 3}, {Rel: "E"}, {Rel: "p", Names: []string{"a"}, Types: []int{1}}, {Rel: "_"}}
	for rel, want := range map[string]int{"e": 0, "p": 1, "E": 2, "_": 4, "q": -1, "": -1, "pp": -1, "P": -1, "e ": -1} {
		at, ok := dtype.Find(decls, rel)
		if ok != (want >= 0) || at != max(want, 0) {
			t.Errorf("%q: %d, %v", rel, at, ok)
		}
	}
	for _, none := range [][]api.Decl{nil, {}, decls[:0]} {
		if at, ok := dtype.Find(none, "e"); at != 0 || ok {
			t.Errorf("none: %d, %v", at, ok)
		}
	}
	many := make([]api.Decl, 1000)
	many[777].Rel = "p"
	if at, ok := dtype.Find(many, "p"); at != 777 || !ok {
		t.Errorf("many: %d, %v", at, ok)
	}
	if at, ok := dtype.Find(many[1:], ""); at != 0 || !ok {
		t.Errorf("the empty name: %d, %v", at, ok)
	}
}

// R3
func TestWhatIsHandedInIsLeftAsItIs(t *testing.T) {
	const s = `.decl p(a: number, b: symbol) .input p .decl q(a: number)
		q(x) :- p(x, "s"), !q(x - 1), n = max k : { p(k, _) }, n < x, x = x.
		q(1). q(x) :- w = z, q(x). .decl q(b: symbol)`
	p, was := read(t, s), read(t, s)
	spare := api.Lit{Op: math.MaxInt64, A: atom("spare", variable("spare"))}
	for i := range p.Rules {
		body := append(p.Rules[i].Body, spare)
		p.Rules[i].Body = body[:len(body)-1]
	}
	decls := append(p.Decls, api.Decl{Rel: "spare"})
	p.Decls = decls[:3]
	dtype.Check(p)
	for _, r := range p.Rules {
		dtype.Vars(r)
		dtype.Types(p.Decls, r)
		dtype.Types(p.Decls[:2], r)
		dtype.Find(p.Decls, r.Head.Rel)
		if behind := r.Body[:len(r.Body)+1]; !reflect.DeepEqual(behind[len(r.Body)], spare) {
			t.Errorf("spare room: %v", behind[len(r.Body)])
		}
	}
	if decls[3].Rel != "spare" {
		t.Errorf("spare room: %v", decls[3])
	}
	for i := range p.Rules {
		if len(p.Rules[i].Body) == 0 {
			p.Rules[i].Body = nil
		}
	}
	if !reflect.DeepEqual(p, was) {
		t.Errorf("%v became %v", was, p)
	}
}
