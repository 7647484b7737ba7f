package ram_test

import (
	"math"
	"slices"
	"strconv"
	"strings"
	"testing"

	"sorites/api"
	"sorites/dlex"
	"sorites/dread"
	"sorites/ram"
)

func num(n int64) api.Val { return api.Val{N: n} }

func sym(s string) api.Val { return api.Val{Sym: true, S: s} }

// row is one of numbers and symbols, as they stand in a text.
func row(s string) []api.Val {
	var l []api.Val
	for _, f := range strings.Fields(s) {
		if n, err := strconv.ParseInt(f, 10, 64); err == nil {
			l = append(l, num(n))
		} else {
			l = append(l, sym(f))
		}
	}
	return l
}

// rows are those of a text, parted by `|`, as in "1 a | 2 b".
func rows(s string) [][]api.Val {
	var l [][]api.Val
	for _, f := range strings.Split(s, "|") {
		if r := row(f); len(r) > 0 {
			l = append(l, r)
		}
	}
	return l
}

// all are the rows of as many relations as there are texts.
func all(l ...string) [][][]api.Val {
	var in [][][]api.Val
	for _, s := range l {
		in = append(in, rows(s))
	}
	return in
}

func same(a, b [][]api.Val) bool { return slices.EqualFunc(a, b, slices.Equal) }

func allSame(a, b [][][]api.Val) bool { return slices.EqualFunc(a, b, same) }

func count(in [][][]api.Val) int { return len(slices.Concat(in...)) }

func read(t *testing.T, s string) api.Prog {
	t.Helper()
	l, line, e := dlex.Lex(s)
	if e != api.OK {
		t.Fatalf("%q: %d in line %d", s, e, line)
	}
	p, line, e := dread.Parse(l)
	if e != api.OK {
		t.Fatalf("%q: %d in line %d", s, e, line)
	}
	return p
}

// What is run here has edges e, and p, q, r, each of its own type.
const decls = `.decl e(a: number, b: number)
.decl p(a: number, b: number)
.decl q(a: number)
.decl r(a: symbol)
`

const path = "p(x, y) :- e(x, y). p(x, z) :- p(x, y), e(y, z)."

// P14.1, P14.2: what comes of rules, and in how many rounds, block by block.
func TestRun(t *testing.T) {
	const edges = "1 2 | 2 3 | 3 4"
	for _, c := range []struct {
		rules  string
		in     [][][]api.Val
		want   [][][]api.Val
		rounds []int
	}{
		// what is run once has no rounds
		{"", all("", "", "", ""), all("", "", "", ""), []int{0, 0, 0, 0}},
		{"", all(edges, "", "5", "a | b"), all(edges, "", "5", "a | b"), []int{0, 0, 0, 0}},
		{"q(1). q(1). q(0). r(\"z\").", all("", "", "5", "a"), all("", "", "0 | 1 | 5", "a | z"), []int{0, 0, 0, 0}},
		{"q(x) :- e(x, _).", all(edges, "", "2 | 7", ""), all(edges, "", "1 | 2 | 3 | 7", ""), []int{0, 0, 0, 0}},
		{"q(c) :- c = count : { p(_, _) }. p(x, x) :- e(x, _). p(7, 7).", all(edges, "", "", ""), all(edges, "1 1 | 2 2 | 3 3 | 7 7", "4", ""), []int{0, 0, 0, 0}},
		{"q(x) :- e(x, _), !p(x, _). p(x, y) :- e(y, x).", all(edges, "", "", ""), all(edges, "2 1 | 3 2 | 4 3", "1", ""), []int{0, 0, 0, 0}},
		{"q(x) :- p(x, 3). p(y, x) :- e(x, y).", all("1 2 | 3 5", "", "", ""), all("1 2 | 3 5", "2 1 | 5 3", "5", ""), []int{0, 0, 0, 0}},
		{"q(y) :- e(x, _), y = x * x - 1.", all("-9223372036854775808 0 | 3 0", "", "", ""), all("-9223372036854775808 0 | 3 0", "", "-1 | 8", ""), []int{0, 0, 0, 0}},

		// a step at a time
		{path, all(edges, "", "", ""), all(edges, "1 2 | 1 3 | 1 4 | 2 3 | 2 4 | 3 4", "", ""), []int{0, 3, 0, 0}},
		{"p(x, z) :- p(x, y), e(y, z). p(x, y) :- e(x, y).", all(edges, "", "", ""), all(edges, "1 2 | 1 3 | 1 4 | 2 3 | 2 4 | 3 4", "", ""), []int{0, 3, 0, 0}},
		{"p(x, y) :- e(x, y). p(x, z) :- e(x, y), p(y, z).", all(edges, "", "", ""), all(edges, "1 2 | 1 3 | 1 4 | 2 3 | 2 4 | 3 4", "", ""), []int{0, 3, 0, 0}},
		{path, all("1 2", "", "", ""), all("1 2", "1 2", "", ""), []int{0, 1, 0, 0}},
		{path, all("", "", "", ""), all("", "", "", ""), []int{0, 0, 0, 0}},
		{path, all("", "", "1", "a"), all("", "", "1", "a"), []int{0, 0, 0, 0}},
		{path, all("1 1", "", "", ""), all("1 1", "1 1", "", ""), []int{0, 1, 0, 0}},
		{path, all("1 2 | 2 3 | 3 1", "", "", ""), all("1 2 | 2 3 | 3 1", "1 1 | 1 2 | 1 3 | 2 1 | 2 2 | 2 3 | 3 1 | 3 2 | 3 3", "", ""), []int{0, 3, 0, 0}},
		{"q(y) :- q(x), e(x, y). q(1).", all("1 2 | 2 3 | 4 5", "", "", ""), all("1 2 | 2 3 | 4 5", "", "1 | 2 | 3", ""), []int{0, 0, 3, 0}},
		{"q(y) :- q(x), e(x, y), !p(y, y), y < 4. q(1). p(3, 3).", all(edges, "", "", ""), all(edges, "3 3", "1 | 2", ""), []int{0, 0, 2, 0}},

		// all rows are new at first: those that were handed in, too
		{path, all("", "1 2 | 2 3", "", ""), all("", "1 2 | 2 3", "", ""), []int{0, 1, 0, 0}},
		{path, all(edges, "0 1 | 7 8", "", ""), all(edges, "0 1 | 0 2 | 0 3 | 0 4 | 1 2 | 1 3 | 1 4 | 2 3 | 2 4 | 3 4 | 7 8", "", ""), []int{0, 4, 0, 0}},
		{"q(x) :- q(x), r(\"a\").", all("", "", "5", "a"), all("", "", "5", "a"), []int{0, 0, 0, 1}},
		{"q(x) :- q(x), r(\"a\").", all("", "", "", "a"), all("", "", "", "a"), []int{0, 0, 0, 0}},
		{"p(y, x) :- p(x, y).", all("", "1 2 | 5 5", "", ""), all("", "1 2 | 2 1 | 5 5", "", ""), []int{0, 2, 0, 0}},
		{"p(y, x) :- p(x, y).", all("", "1 2 | 2 1", "", ""), all("", "1 2 | 2 1", "", ""), []int{0, 1, 0, 0}},

		// what came in a round is there behind it alone, so paths grow twofold
		{"p(x, z) :- p(x, y), p(y, z).", all("", "1 2 | 2 3", "", ""), all("", "1 2 | 1 3 | 2 3", "", ""), []int{0, 2, 0, 0}},
		{"p(x, z) :- p(x, y), p(y, z).", all("", "1 2 | 2 3 | 3 4", "", ""), all("", "1 2 | 1 3 | 1 4 | 2 3 | 2 4 | 3 4", "", ""), []int{0, 3, 0, 0}},
		{"p(x, z) :- p(x, y), p(y, z).", all("", "1 2 | 2 3 | 3 4 | 4 5", "", ""), all("", "1 2 | 1 3 | 1 4 | 1 5 | 2 3 | 2 4 | 2 5 | 3 4 | 3 5 | 4 5", "", ""), []int{0, 3, 0, 0}},
		{"p(x, z) :- p(x, y), p(y, z).", all("", "1 2 | 2 3 | 3 4 | 4 5 | 5 6", "", ""), all("", "1 2 | 1 3 | 1 4 | 1 5 | 1 6 | 2 3 | 2 4 | 2 5 | 2 6 | 3 4 | 3 5 | 3 6 | 4 5 | 4 6 | 5 6", "", ""), []int{0, 4, 0, 0}},

		// of two that hang on each other
		{"p(x, x) :- q(x). q(y) :- p(_, y).", all("", "1 2", "", ""), all("", "1 2 | 2 2", "2", ""), []int{0, 3, 0}},
		{"q(y) :- p(_, y). p(x, x) :- q(x).", all("", "1 2", "", ""), all("", "1 2 | 2 2", "2", ""), []int{0, 3, 0}},
		{"p(x, x) :- q(x). q(y) :- p(_, y).", all("", "", "2", ""), all("", "2 2", "2", ""), []int{0, 2, 0}},
		{"p(x, y) :- e(x, y). p(x, x) :- q(x). q(y) :- p(_, y). q(x) :- p(x, _), r(_).", all("1 2 | 2 3", "", "", "a"), all("1 2 | 2 3", "1 1 | 1 2 | 2 2 | 2 3 | 3 3", "1 | 2 | 3", "a"), []int{0, 0, 3}},
		{"q(x) :- p(x, x). p(x, y) :- q(x), e(x, y). p(y, y) :- p(_, y).", all("1 2 | 2 3 | 5 1", "", "1", ""), all("1 2 | 2 3 | 5 1", "1 2 | 2 2 | 2 3 | 3 3", "1 | 2 | 3", ""), []int{0, 7, 0}},

		// some blocks with rounds, in the groups' order
		{path + " q(y) :- q(x), p(x, y), y < x + 2. q(1).", all(edges, "", "", ""), all(edges, "1 2 | 1 3 | 1 4 | 2 3 | 2 4 | 3 4", "1 | 2 | 3 | 4", ""), []int{0, 3, 4, 0}},
		{"e(x, z) :- e(x, y), p(y, z). p(y, x) :- p(x, y).", all("1 2", "2 3 | 4 3", "", ""), all("1 2 | 1 3 | 1 4", "2 3 | 3 2 | 3 4 | 4 3", "", ""), []int{2, 3, 0, 0}},
		{"e(x, z) :- e(x, y), p(y, z). p(y, x) :- p(x, y). q(n) :- n = count : { e(_, _) }. q(x) :- q(x).", all("1 2", "2 3 | 4 3", "", ""), all("1 2 | 1 3 | 1 4", "2 3 | 3 2 | 3 4 | 4 3", "3", ""), []int{2, 3, 1, 0}},
	} {
		p := read(t, decls+c.rules)
		if got, e := ram.Run(p, c.in, 100); !allSame(got, c.want) || e != api.OK {
			t.Errorf("%s: %v, %d, not %v", c.rules, got, e, c.want)
		}
		if got, e := ram.Rounds(p, c.in, 100); !slices.Equal(got, c.rounds) || e != api.OK {
			t.Errorf("%s: %d rounds, %d, not %d", c.rules, got, e, c.rounds)
		}
	}
}

// P14.3: on the model there is one round where there is a Loop, and something.
func TestRoundsOfTheModel(t *testing.T) {
	for rules, want := range map[string][]int{
		"":                    {0, 0, 0, 0},
		path:                  {0, 1, 0, 0},
		"p(x, y) :- p(y, x).": {0, 0, 0, 0},
		"q(x) :- q(x). e(x, y) :- e(y, x). q(1).":          {1, 0, 1, 0},
		"q(x) :- p(x, _). p(x, x) :- q(x), e(x, x).":       {0, 0, 0},
		"q(x) :- p(x, _). p(x, x) :- q(x). q(5).":          {0, 1, 0},
		"q(x) :- p(x, _). p(x, x) :- q(x), e(x, x). q(5).": {0, 1, 0},
		"r(x) :- r(x), q(_).":                              {0, 0, 0, 0},
		"r(x) :- r(x), q(_). r(\"a\").":                    {0, 0, 0, 1},
	} {
		p := read(t, decls+rules)
		m, e := ram.Run(p, all("1 2 | 2 3 | 3 4", "", "", ""), 100)
		if e != api.OK {
			t.Fatal(rules, e)
		}
		if n, e := ram.Rounds(p, m, 100); !slices.Equal(n, want) || e != api.OK {
			t.Errorf("%s: %d rounds, %d, not %d", rules, n, e, want)
		}
		if again, e := ram.Run(p, m, count(m)); !allSame(again, m) || e != api.OK {
			t.Errorf("%s: %v, %d, not %v", rules, again, e, m)
		}
	}
}

func TestRunOfNothing(t *testing.T) {
	for _, in := range [][][][]api.Val{nil, {}} {
		for _, p := range []api.Prog{{}, {Decls: []api.Decl{}, Rules: []api.Rule{}}} {
			if l, e := ram.Run(p, in, 1); len(l) != 0 || e != api.OK {
				t.Errorf("%v, %d", l, e)
			}
			if l, e := ram.Rounds(p, in, 1); len(l) != 0 || e != api.OK {
				t.Errorf("%v, %d", l, e)
			}
		}
	}
}

// tryError holds both calls against an error.
func tryError(t *testing.T, name string, p api.Prog, in [][][]api.Val, limit int, want api.Errno) {
	t.Helper()
	if l, e := ram.Run(p, in, limit); l != nil || e != want {
		t.Errorf("%s, %d: %v, %d, not %d", name, limit, l, e, want)
	}
	if l, e := ram.Rounds(p, in, limit); l != nil || e != want {
		t.Errorf("%s, %d: %d rounds, %d, not %d", name, limit, l, e, want)
	}
}

// P14.1, P14.2: the first error that the promise names is told.
func TestWrongThings(t *testing.T) {
	const right = ".decl a(x: number)\na(x) :- a(x).\na(1).\n"
	limits := []int{0, -1, math.MinInt, api.MaxLimit + 1, math.MaxInt}
	for _, in := range [][][][]api.Val{all("1"), all("a"), nil} {
		for s, want := range map[string]api.Errno{
			right + ".decl a(y: number)":                            api.ErrTwice,
			right + "b(1).":                                         api.ErrNoRel,
			right + "a(1, 2).":                                      api.ErrArity,
			right + "a(\"s\").":                                     api.ErrType,
			right + "a(x) :- a(y).":                                 api.ErrUnsafe,
			right + "a(x) :- a(x), !a(x).":                          api.ErrStrat,
			right + "a(c) :- c = count : { a(_) }.":                 api.ErrStrat,
			right + "a(y) :- a(x), y = x + 1.":                      api.ErrInvent,
			right + "a(y) :- a(x), y = x + 1. a(x) :- b(x).":        api.ErrNoRel,
			right + "a(y) :- a(x), y = x + 1. a(x) :- a(x), !a(x).": api.ErrInvent,
		} {
			for _, limit := range append(limits, 1, api.MaxLimit) {
				tryError(t, s, read(t, s), in, limit, want)
			}
		}
		tryError(t, "a tree that is none", api.Prog{Rules: []api.Rule{{}}}, in, 5, api.ErrTree)
		for _, limit := range limits {
			tryError(t, "a wrong limit", read(t, right), in, limit, api.ErrArg)
		}
	}
	for name, in := range map[string][][][]api.Val{
		"no lists":              nil,
		"no lists, but a list":  {},
		"symbols":               all("a"),
		"too many lists":        all("1", "1"),
		"rows that do not rise": all("2 | 1"),
		"the same row twice":    all("1 | 1"),
		"too long a row":        all("1 1"),
		"a row of nothing":      {{{}}},
		"a nil row":             {{nil}},
		"too many rows, too":    all("3 | 2 | 1"),
		"a number with a text":  {{{{N: 1, S: "a"}}}},
		"a symbol with one":     {{{{N: 1, Sym: true, S: "a"}}}},
	} {
		for _, limit := range []int{1, api.MaxLimit} {
			tryError(t, name, read(t, right), in, limit, api.ErrFacts)
		}
	}
}

// R1: a tree whose list holds itself is told to be none.
func TestTreesThatHoldThemselves(t *testing.T) {
	p := read(t, ".decl a(x: number)\na(x) :- a(x), x < 1 + 2.\n")
	sum := p.Rules[0].Body[1].Y
	sum.L[0] = sum
	tryError(t, "a sum that holds itself", p, all("1"), 9, api.ErrTree)
}
