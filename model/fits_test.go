package model_test

import (
	"math"
	"slices"
	"strconv"
	"strings"
	"testing"

	"sorites/api"
	"sorites/dlex"
	"sorites/dread"
	"sorites/model"
)

func num(n int64) api.Val { return api.Val{N: n} }

func sym(s string) api.Val { return api.Val{Sym: true, S: s} }

// row is one of numbers and symbols, as they stand in a text.
func row(s string) []api.Val {
	var l []api.Val
	for _, f := range strings.Fields(s) {
		if n, err := strconv.ParseInt(f, 10, 64); err == nil {
			l = append(l, num(n))
		} else {
			l = append(l, sym(strings.Trim(f, "'")))
		}
	}
	return l
}

// rows are those of a text, parted by `|`, as in "1 a | 2 ”".
func rows(s string) [][]api.Val {
	var l [][]api.Val
	for _, f := range strings.Split(s, "|") {
		if r := row(f); len(r) > 0 {
			l = append(l, r)
		}
	}
	return l
}

// all are the rows of as many relations as there are texts.
func all(l ...string) [][][]api.Val {
	var in [][][]api.Val
	for _, s := range l {
		in = append(in, rows(s))
	}
	return in
}

func same(a, b [][]api.Val) bool { return slices.EqualFunc(a, b, slices.Equal) }

func allSame(a, b [][][]api.Val) bool { return slices.EqualFunc(a, b, same) }

func read(t *testing.T, s string) api.Prog {
	t.Helper()
	l, line, e := dlex.Lex(s)
	if e != api.OK {
		t.Fatalf("%q: %d in line %d", s, e, line)
	}
	p, line, e := dread.Parse(l)
	if e != api.OK {
		t.Fatalf("%q: %d in line %d", s, e, line)
	}
	return p
}

// two relations: of a number and a symbol, and of a number.
const mixed = ".decl m(a: number, b: symbol)\n.decl n(a: number)\n"

// P9.1
func TestFits(t *testing.T) {
	p := read(t, mixed+"n(x) :- m(x, _).")
	for _, in := range [][][][]api.Val{
		{nil, nil},
		{{}, {}},
		all("", ""),
		all("1 a", "1"),
		all("1 a | 1 b | 2 ''", "-1 | 0 | 1"),
		all("-9223372036854775808 '' | 9223372036854775807 ''", "-9223372036854775808 | 9223372036854775807"),
		{{{num(0), sym("")}, {num(0), sym("\x00")}, {num(0), sym("\x00a\xff")}, {num(0), sym("a")}}, {{num(0)}}},
		all("2 a | 10 a | 10 b", ""),
	} {
		if !model.Fits(p, in) {
			t.Errorf("%v does not fit", in)
		}
	}
}

// P9.1
func TestDoesNotFit(t *testing.T) {
	p := read(t, mixed+"n(x) :- m(x, _).")
	for name, in := range map[string][][][]api.Val{
		"no lists":             nil,
		"too few":              all("1 a"),
		"too many":             all("1 a", "1", ""),
		"the other way round":  all("1", "1 a"),
		"a value too few":      all("1 a | 2", ""),
		"a value too many":     all("1 a", "1 1"),
		"no values":            {{{}}, nil},
		"a nil row":            {nil, {nil}},
		"a nil row ahead":      {nil, {nil, {num(1)}}},
		"a symbol of numbers":  all("a a", ""),
		"a number of symbols":  all("1 1", ""),
		"one in the last row":  all("1 a", "1 | 2 | a"),
		"a number with a text": {nil, {{{N: 1, S: "a"}}}},
		"a symbol with one":    {{{num(1), {Sym: true, N: 1, S: "a"}}}, nil},
		"a symbol without":     {{{num(1), {S: "a"}}}, nil},
		"a number marked":      {nil, {{{Sym: true, N: 1}}}},
		"a nought marked":      {nil, {{{Sym: true}}}},
		"twice":                all("1 a | 1 a", ""),
		"falling":              all("", "2 | 1"),
		"falling numbers":      all("10 a | 2 a", ""),
		"falling symbols":      all("1 b | 1 a", ""),
		"falling at the end":   all("", "1 | 2 | 3 | 3"),
	} {
		if model.Fits(p, in) {
			t.Errorf("%s: %v fits", name, in)
		}
	}
}

// P9.1: what does not fit beside that, or has a name twice, is right.
func TestFitsAsksOnlyForRightPrograms(t *testing.T) {
	for s, in := range map[string][][][]api.Val{
		"":                                                    nil,
		".decl a(x: number) .decl a(x: symbol)":               all("1", "a"),
		".decl a(x: number) b(1).":                            all("1"),
		".decl a(x: number) a(1, 2).":                         all("1"),
		".decl a(x: number) a(\"s\").":                        all("1"),
		".decl a(x: number) a(x) :- a(y).":                    all("1"),
		".decl a(x: number) a(x) :- a(x), !a(x).":             all("1"),
		".decl a(x: number) a(y) :- a(x), y = x + 1.":         all("1"),
		".decl a(x: number) .output a .input a a(1).":         all("1"),
		".decl a(x: number) .decl b(x: number) b(x) :- a(x).": all("1", "2"),
	} {
		p := read(t, s)
		if !model.Fits(p, in) {
			t.Errorf("%q: %v does not fit", s, in)
		}
		for i := range p.Decls {
			p.Decls[i].Line = math.MinInt
		}
		if !model.Fits(p, in) || model.Fits(p, append(slices.Clone(in), nil)) {
			t.Errorf("%q: %v with other lines, or with one more", s, in)
		}
	}
	if !model.Fits(api.Prog{}, [][][]api.Val{}) {
		t.Error("no relations, an empty list")
	}
}

// wrongPrograms are no programs, of one relation of a number.
func wrongPrograms() map[string]api.Prog {
	one := api.Decl{Rel: "a", Names: []string{"x"}, Types: []int{api.TNum}}
	fact := api.Rule{Head: api.Atom{Rel: "a", L: []api.Term{{Op: api.OInt, N: 1}}}}
	self := api.Term{Op: api.OAdd, L: make([]api.Term, 2)}
	self.L[0], self.L[1] = self, self
	with := func(d api.Decl, rules ...api.Rule) api.Prog { return api.Prog{Decls: []api.Decl{d}, Rules: rules} }
	return map[string]api.Prog{
		"no name":        with(api.Decl{Names: one.Names, Types: one.Types}),
		"a wrong type":   with(api.Decl{Rel: "a", Names: one.Names, Types: []int{3}}),
		"no type":        with(api.Decl{Rel: "a", Names: one.Names}),
		"no rule":        with(one, api.Rule{}),
		"a wrong term":   with(one, api.Rule{Head: api.Atom{Rel: "a", L: []api.Term{{Op: 99}}}}),
		"a wrong part":   with(one, api.Rule{Head: fact.Head, Body: []api.Lit{{Op: 11}}}),
		"terms in terms": with(one, api.Rule{Head: fact.Head, Body: []api.Lit{{Op: api.LEq, X: self, Y: self}}}),
		"many rules":     with(one, slices.Repeat([]api.Rule{fact}, api.MaxRules+1)...),
	}
}

// P9.1, P9.2
func TestWrongPrograms(t *testing.T) {
	in := all("1")
	for name, p := range wrongPrograms() {
		if model.Fits(p, in) {
			t.Errorf("%s: fits", name)
		}
		if l, e := model.Fire(p, 0, in); l != nil || e != api.ErrTree {
			t.Errorf("%s: Fire: %v, %d", name, l, e)
		}
		if l, e := model.Eval(p, in, 9); l != nil || e != api.ErrTree {
			t.Errorf("%s: Eval: %v, %d", name, l, e)
		}
	}
}
