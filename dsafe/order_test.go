package dsafe_test

import (
	"math"
	"slices"
	"strconv"
	"strings"
	"testing"

	"sorites/api"
	"sorites/dlex"
	"sorites/dread"
	"sorites/dsafe"
)

func variable(s string) api.Term { return api.Term{Op: api.OVar, S: s} }
func number(n int64) api.Term    { return api.Term{Op: api.OInt, N: n} }
func symbol(s string) api.Term   { return api.Term{Op: api.OSym, S: s} }

func two(op int, a, b api.Term) api.Term { return api.Term{Op: op, L: []api.Term{a, b}} }

func atom(rel string, l ...api.Term) api.Atom { return api.Atom{Rel: rel, L: l} }

func read(t *testing.T, s string) api.Prog {
	t.Helper()
	l, _, e := dlex.Lex(s)
	if e != api.OK {
		t.Fatalf("%q: %d", s, e)
	}
	p, line, e := dread.Parse(l)
	if e != api.OK {
		t.Fatalf("%q: %d in line %d", s, e, line)
	}
	return p
}

func readRule(t *testing.T, s string) api.Rule {
	t.Helper()
	p := read(t, s)
	if len(p.Decls) != 0 || len(p.Rules) != 1 {
		t.Fatalf("%q is no rule", s)
	}
	return p.Rules[0]
}

// places are those that a text names, as in "1 0 2".
func places(s string) []int {
	var l []int
	for _, f := range strings.Fields(s) {
		k, _ := strconv.Atoi(f)
		l = append(l, k)
	}
	return l
}

// wrongRules are none that is right, each but for one thing.
func wrongRules() []api.Rule {
	x := variable("x")
	head, q := atom("p", x), api.Lit{Op: api.LAtom, A: atom("q", x)}
	deep := x
	for range api.MaxDeep {
		deep = two(api.OAdd, deep, x)
	}
	ring := []api.Term{{Op: api.OAdd}, {Op: api.OMul}}
	ring[0].L, ring[1].L = ring, ring
	rules := []api.Rule{
		{},
		{Head: head},
		{Head: head, Line: 3},
		{Head: atom("", x), Body: []api.Lit{q}},
		{Head: atom("p"), Body: []api.Lit{q}},
		{Head: atom("p", api.Term{Op: api.OAny}), Body: []api.Lit{q}},
		{Head: atom("p", two(api.OAdd, x, x)), Body: []api.Lit{q}},
		{Head: head, Body: slices.Repeat([]api.Lit{q}, api.MaxBody+1)},
	}
	for _, l := range []api.Lit{
		{},
		{Op: 11, A: q.A},
		{Op: -1, X: x, Y: x},
		{Op: api.LAtom},
		{Op: api.LAtom, A: q.A, X: x},
		{Op: api.LNot, A: atom("q", variable("_"))},
		{Op: api.LEq, X: x},
		{Op: api.LNe, X: x, Y: api.Term{Op: api.OAny}},
		{Op: api.LLt, X: x, Y: x, A: q.A},
		{Op: api.LLe, X: x, Y: two(api.OAdd, x, symbol("s"))},
		{Op: api.LEq, X: x, Y: deep},
		{Op: api.LEq, X: x, Y: ring[0]},
		{Op: api.LAtom, A: atom("q", ring[1])},
		{Op: api.LCount, X: x, Y: x, A: q.A},
		{Op: api.LCount, X: symbol("s"), A: q.A},
		{Op: api.LSum, X: x, A: q.A},
		{Op: api.LMin, X: x, Y: number(1), A: q.A},
		{Op: api.LMax, X: x, Y: x},
	} {
		rules = append(rules, api.Rule{Head: head, Body: []api.Lit{l}}, api.Rule{Head: head, Body: []api.Lit{q, l}})
	}
	return rules
}

var orders = map[string]string{
	`p(x) :- y = x + 1, q(x), y < 3.`: "1 0 2",

	// facts, and parts that need nothing
	`p(1).`:                                  "",
	`p("s", -3).`:                            "",
	`p(1) :- 1 = 2.`:                         "0",
	`p(1) :- "s" != "s", 1 + 2 < 3, !q(1).`:  "0 1 2",
	`p(1) :- !q(_), !q("s"), !q(1 + 2 * 3).`: "0 1 2",
	`p(1) :- q(_).`:                          "0",
	`p(1) :- q(1), r(1 + 2), 3 <= 4, s(_).`:  "2 0 1 3",

	// atoms
	`p(x) :- q(x).`:                                     "0",
	`p(y, x) :- q(x), q(y).`:                            "0 1",
	`p(x) :- q(x + 1), q(x).`:                           "1 0",
	`p(x) :- q(x + y), r(y), s(x).`:                     "1 2 0",
	`p(x) :- q(x, y + 1), r(y).`:                        "1 0",
	`p(x) :- q(z, 2 * (x - 1)), r(z + 1), s(x), t(_).`:  "2 0 1 3",
	`p(x) :- q(x, x - 1), r(x).`:                        "1 0",
	`p(x) :- q(1 + x), r(1 - y), s(z * 1), t(x, y, z).`: "3 0 1 2",

	// parts that need all of their variables
	`p(x) :- !q(x), r(x).`:                                      "1 0",
	`p(x) :- !q(x, y + 1, _), r(x), s(y).`:                      "1 2 0",
	`p(x) :- x != 3, r(x).`:                                     "1 0",
	`p(x) :- x < y, y <= x, r(x), s(y), y != x, x + 1 < y * y.`: "2 3 0 1 4 5",
	`p(x) :- r(x), s(y), x < 3, !q(y), 3 < x.`:                  "0 2 4 1 3",
	`p(x) :- r(x), !r(x), s(x), !s(x).`:                         "0 1 3 2",

	// two terms that are one
	`p(x) :- x = 3.`:                           "0",
	`p(x) :- 3 = x.`:                           "0",
	`p(x) :- "s" = x.`:                         "0",
	`p(x) :- x = 1 + 2.`:                       "0",
	`p(x) :- x = y, y = z, z = 3.`:             "2 1 0",
	`p(x) :- 3 = z, z = y, y = x.`:             "0 1 2",
	`p(x) :- x = y, y = x, q(y).`:              "2 0 1",
	`p(x) :- x = x, q(x).`:                     "1 0",
	`p(x) :- y + 1 = x, q(y).`:                 "1 0",
	`p(x) :- x = y + z, q(y), r(z).`:           "1 2 0",
	`p(x) :- q(x), x + 1 = y + 2, r(y).`:       "0 2 1",
	`p(x) :- x = 3, x = 4, q(x).`:              "0 1 2",
	`p(x) :- q(x), r(y), z = x, w = y, u = 2.`: "4 0 2 1 3",
	`p(x) :- x - x = y, q(x), y = y.`:          "1 0 2",

	// aggregates
	`p(n) :- n = count : { q(x) }.`:                                   "0",
	`p(1) :- 3 = count : { q(_, x, x) }.`:                             "0",
	`p(n) :- n = sum x : { q(x, y) }.`:                                "0",
	`p(n) :- n = min x : { q(y, x) }, m = max x1 : { q(x1, _) }.`:     "0 1",
	`p(x, n) :- n = count : { q(x, y) }, r(x).`:                       "1 0",
	`p(n) :- n = count : { q(x, y) }, r(x).`:                          "1 0",
	`p(n) :- n = count : { q(x) }, x < 3, r(x).`:                      "2 0 1",
	`p(n) :- n = count : { q(x + 1) }, r(x).`:                         "1 0",
	`p(n) :- n = sum x : { q(x + 1) }, r(x).`:                         "1 0",
	`p(n) :- n = sum z : { q(x + 1, z) }, r(x).`:                      "1 0",
	`p(n) :- n = sum x : { q(x) }, r(x).`:                             "1 0",
	`p(n) :- n = count : { q(n) }, r(n).`:                             "1 0",
	`p(n) :- n = sum n : { q(n) }, r(n).`:                             "1 0",
	`p(n) :- n = max y : { q(y) }, !r(n), 0 < n.`:                     "0 1 2",
	`p(n) :- q(m), r(n), m = count : { s(n) }, m = count : { s(x) }.`: "3 0 1 2",
	`p(n) :- x = n, n = count : { q(y) }, r(x + n).`:                  "1 0 2",
	`p(n) :- m = min y : { q(n, y) }, n = count : { q(y2, _) }.`:      "1 0",
	`p(n) :- n = min y : { q(y, x) }, m = min x : { q(x) }, r(x).`:    "2 0 1",
	`p(n) :- x = 1, n = count : { q(x) }.`:                            "0 1",
}

var unsafes = []string{
	`p(x) :- !q(x).`,
	`p(x) :- q(y).`,
	`p(y) :- q(x), y + 1 = x.`,
	`p(1, x) :- q(y).`,
	`p(x) :- 1 = 2.`,
	`p(1) :- q(x + 1).`,
	`p(1) :- q(x, x + 1).`,
	`p(1) :- q(x, y - 1), r(y, x - 1).`,
	`p(1) :- !q(x), r(y).`,
	`p(1) :- !q(x, _).`,
	`p(1) :- !q(1 + x).`,
	`p(1) :- x != 1.`, `p(1) :- 1 != x.`,
	`p(1) :- x < 1.`, `p(1) :- 1 < x.`,
	`p(1) :- x <= 1.`, `p(1) :- 1 <= x.`,
	`p(1) :- x != x.`, `p(1) :- x <= x.`,
	`p(1) :- x = x.`,
	`p(x) :- x = y.`,
	`p(x) :- x = y, y = x.`,
	`p(x) :- x = x + 1.`, `p(x) :- x + 0 = x.`,
	`p(x) :- x = y + z, q(y).`,
	`p(x) :- x + 1 = 3.`, `p(x) :- 3 = x * 1.`,
	`p(x) :- x + 1 = y, y + 1 = x.`,
	`p(x) :- q(y), x + y = y + x.`,
	`p(n) :- n = sum z : { q(x) }.`,
	`p(n) :- n = min z : { q(x) }, r(z).`,
	`p(n) :- n = max z : { q(1) }, r(z).`,
	`p(n) :- n = max n : { q(1) }, r(n).`,
	`p(n) :- n = count : { q(n) }.`,
	`p(n) :- n = sum n : { q(n) }.`,
	`p(n) :- n = count : { q(x + 1) }.`,
	`p(n) :- n = count : { q(x, x + 1) }.`,
	`p(n) :- n = sum x : { q(1 * x) }.`,
	`p(x) :- n = count : { q(x) }.`,
	`p(x) :- n = max x : { q(x) }.`,
	`p(y) :- n = count : { q(y) }.`,
	`p(n) :- n = count : { q(x) }, m = count : { q(x) }.`,
	`p(n) :- n = sum y : { q(y) }, m = sum y : { q(x) }.`,
	`p(n) :- n = count : { q(x) }, m = count : { q(n, k) }, x < m.`,
	`p(x) :- x = count : { q(y) }, y = count : { q(x) }.`,
	`p(1) :- x = count : { q(y, x) }, y = 3.`,
	`p(1) :- n = count : { q(x) }, !r(x).`,
	`p(m) :- n = count : { q(x) }.`,
}

// P6.1
func TestOrder(t *testing.T) {
	for s, want := range orders {
		if got, e := dsafe.Order(readRule(t, s)); !slices.Equal(got, places(want)) || e != api.OK {
			t.Errorf("%q: %v, %d, not %s", s, got, e, want)
		}
	}
}

// P6.1
func TestUnsafeRules(t *testing.T) {
	for _, s := range unsafes {
		if got, e := dsafe.Order(readRule(t, s)); len(got) != 0 || e != api.ErrUnsafe {
			t.Errorf("%q: %v, %d", s, got, e)
		}
	}
}

// P6.1, P6.2
func TestWrongRules(t *testing.T) {
	for i, r := range wrongRules() {
		if got, e := dsafe.Order(r); len(got) != 0 || e != api.ErrTree {
			t.Errorf("Order %d: %v, %d", i, got, e)
		}
		for k := -1; k < 3; k++ {
			if got, e := dsafe.Bound(r, k); len(got) != 0 || e != api.ErrTree {
				t.Errorf("Bound %d, %d: %v, %d", i, k, got, e)
			}
			if got, e := dsafe.Outer(r, k); len(got) != 0 || e != api.ErrTree {
				t.Errorf("Outer %d, %d: %v, %d", i, k, got, e)
			}
		}
		if got, e := dsafe.Invents(r); got || e != api.ErrTree {
			t.Errorf("Invents %d: %v, %d", i, got, e)
		}
		if line, e := dsafe.Check(api.Prog{Rules: []api.Rule{r}}); line != 0 || e != api.ErrTree {
			t.Errorf("Check %d: %d, %d", i, line, e)
		}
	}
}

// chain is a rule of as many parts as there may be, of which each needs the
// one behind it.
func chain() api.Rule {
	name := func(i int) api.Term { return variable("x" + strconv.Itoa(i)) }
	r := api.Rule{Head: atom("p", name(0))}
	for i := range api.MaxBody - 1 {
		r.Body = append(r.Body, api.Lit{Op: api.LEq, X: name(i), Y: two(api.OAdd, name(i+1), number(1))})
	}
	r.Body = append(r.Body, api.Lit{Op: api.LAtom, A: atom("q", name(api.MaxBody-1))})
	return r
}

// P6.1
func TestOrderOfTheLongestBodies(t *testing.T) {
	var rising, falling []int
	for k := range api.MaxBody {
		rising, falling = append(rising, k), append(falling, api.MaxBody-1-k)
	}
	if got, e := dsafe.Order(chain()); !slices.Equal(got, falling) || e != api.OK {
		t.Errorf("%v, %d", got, e)
	}
	x := variable("x")
	same := api.Rule{Head: atom("p", x), Body: slices.Repeat([]api.Lit{{Op: api.LAtom, A: atom("q", x)}}, api.MaxBody)}
	if got, e := dsafe.Order(same); !slices.Equal(got, rising) || e != api.OK {
		t.Errorf("%v, %d", got, e)
	}
	r := chain()
	r.Body[api.MaxBody-1] = api.Lit{Op: api.LNot, A: r.Body[api.MaxBody-1].A}
	if got, e := dsafe.Order(r); len(got) != 0 || e != api.ErrUnsafe {
		t.Errorf("%v, %d", got, e)
	}
}

// P6.1
func TestOrderOfTheGreatestTerms(t *testing.T) {
	high := variable("x")
	for range api.MaxDeep - 1 {
		high = two(api.OMul, high, high)
	}
	a := atom("q", high, high, high, high, high, high, high, high)
	r := api.Rule{Head: atom("p", variable("x")), Body: []api.Lit{{Op: api.LAtom, A: a}, {Op: api.LAtom, A: atom("q", variable("x"))}}}
	if got, e := dsafe.Order(r); !slices.Equal(got, []int{1, 0}) || e != api.OK {
		t.Errorf("%v, %d", got, e)
	}
}

// P6.1
func TestCheck(t *testing.T) {
	const relations = ".decl p(a: number) .decl q(a: number, b: symbol)\n"
	for _, c := range []struct {
		s    string
		line int
		e    api.Errno
	}{
		{"", 0, api.OK},
		{"p(1). q(2, \"s\").", 0, api.OK},
		{"p(x) :- q(x, _).\np(x) :- x = y, p(y).", 0, api.OK},
		{"p(x) :- q(x, _).\np(x) :- p(y), x < y.\np(x) :- !p(x).", 3, api.ErrUnsafe},
		{"p(1).\n\np(x)\n:- !p(x).\np(x) :- x = x + 1.", 4, api.ErrUnsafe},
		{"p(x) :- p(y), x < y.\nr(1).", 3, api.ErrNoRel},
		{"p(x) :- p(y), x < y.\np(1, 2).", 3, api.ErrArity},
		{"p(x) :- p(y), x < y.\np(\"s\").", 3, api.ErrType},
		{"p(x) :- p(y), x < y.\n.decl p(a: number)", 3, api.ErrTwice},
		{"p(x) :- !p(x).\nq(1, x) :- x = x, p(x).", 3, api.ErrType},
	} {
		if line, e := dsafe.Check(read(t, relations+c.s)); line != c.line || e != c.e {
			t.Errorf("%q: %d, %d, not %d, %d", c.s, line, e, c.line, c.e)
		}
	}
	if line, e := dsafe.Check(api.Prog{}); line != 0 || e != api.OK {
		t.Errorf("nothing: %d, %d", line, e)
	}
}

// P6.1: the line is the one that stands there, whatever it is.
func TestCheckTellsTheLineThatStandsThere(t *testing.T) {
	for _, line := range []int{0, -1, 7, math.MaxInt, math.MinInt} {
		p := read(t, ".decl p(a: number) p(1). p(x) :- !p(x). p(x) :- p(y), x < y.")
		p.Rules[0].Line, p.Rules[1].Line = 3, line
		if got, e := dsafe.Check(p); got != line || e != api.ErrUnsafe {
			t.Errorf("%d, %d, not %d", got, e, line)
		}
	}
}

// P6.1
func TestCheckOfTheMostRules(t *testing.T) {
	p := read(t, ".decl p(a: number) p(x) :- p(x).")
	p.Rules = slices.Repeat(p.Rules, api.MaxRules)
	if line, e := dsafe.Check(p); line != 0 || e != api.OK {
		t.Errorf("%d, %d", line, e)
	}
	p.Rules[api.MaxRules-1] = readRule(t, "\n\np(x) :- !p(x).")
	if line, e := dsafe.Check(p); line != 3 || e != api.ErrUnsafe {
		t.Errorf("%d, %d", line, e)
	}
	p.Rules = append(p.Rules, p.Rules[0])
	if line, e := dsafe.Check(p); line != 0 || e != api.ErrTree {
		t.Errorf("%d, %d", line, e)
	}
}
