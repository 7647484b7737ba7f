package facts_test

import (
	"math"
	"slices"
	"testing"

	"sorites/api"
	"sorites/facts"
	"sorites/model"
)

// P10.2
func TestLine(t *testing.T) {
	p := program(t, mixed)
	for _, c := range []struct {
		k    int
		row  []api.Val
		want string
	}{
		{0, []api.Val{num(1), sym("a")}, "e\t1\t\"a\"\n"},
		{0, []api.Val{num(-1), sym("\n")}, "e\t-1\t\"\\n\"\n"},
		{0, []api.Val{num(0), sym("")}, "e\t0\t\"\"\n"},
		{0, []api.Val{num(math.MinInt64), sym("\t\x00\xff")}, "e\t-9223372036854775808\t\"\\x09\\x00\\xff\"\n"},
		{1, []api.Val{num(math.MaxInt64)}, "n\t9223372036854775807\n"},
		{2, []api.Val{sym("1")}, "s\t\"1\"\n"},
		{2, []api.Val{sym(`a "b" \`)}, "s\t\"a \\\"b\\\" \\\\\"\n"},
		{3, []api.Val{num(7)}, "out\t7\n"},
		{4, []api.Val{num(7)}, "none\t7\n"},
		{5, []api.Val{num(1), sym("2"), num(3), sym("4"), num(5), sym("6"), num(7), sym("8")}, "wide\t1\t\"2\"\t3\t\"4\"\t5\t\"6\"\t7\t\"8\"\n"},
	} {
		if s, e := facts.Line(p.Decls[c.k], c.row); s != c.want || e != api.OK {
			t.Errorf("%v: %q, %d, not %q", c.row, s, e, c.want)
		}
	}
}

// P10.2: Types alone say what a row has, be the relation right or not.
func TestLineGoesByTypesAlone(t *testing.T) {
	for _, c := range []struct {
		d    api.Decl
		row  []api.Val
		want string
	}{
		{api.Decl{}, nil, "\n"},
		{api.Decl{Rel: "a"}, nil, "a\n"},
		{api.Decl{Rel: "a"}, []api.Val{}, "a\n"},
		{api.Decl{Rel: "a", Names: []string{"x", "y"}}, nil, "a\n"},
		{api.Decl{Types: []int{api.TNum}}, []api.Val{num(1)}, "\t1\n"},
		{api.Decl{Rel: "a", Types: []int{0, 3, -1, math.MaxInt, math.MinInt}}, []api.Val{sym("a"), sym("b"), sym(""), sym("1"), sym("\n")}, "a\t\"a\"\t\"b\"\t\"\"\t\"1\"\t\"\\n\"\n"},
		{api.Decl{Rel: "1 \t\n\xff", Types: []int{api.TNum}, Line: -1}, []api.Val{num(1)}, "1 \t\n\xff\t1\n"},
		{api.Decl{Rel: "a", Names: []string{"x"}, Types: []int{1, 1, 1, 1, 1, 1, 1, 1, 1}}, slices.Repeat([]api.Val{num(2)}, 9), "a\t2\t2\t2\t2\t2\t2\t2\t2\t2\n"},
	} {
		if s, e := facts.Line(c.d, c.row); s != c.want || e != api.OK {
			t.Errorf("%v, %v: %q, %d, not %q", c.d, c.row, s, e, c.want)
		}
	}
}

// P10.2
func TestWhatHasNoLine(t *testing.T) {
	for _, c := range []struct {
		types []int
		row   []api.Val
	}{
		{nil, []api.Val{num(0)}},
		{nil, []api.Val{{}}},
		{[]int{api.TNum}, nil},
		{[]int{api.TNum}, []api.Val{}},
		{[]int{api.TNum}, []api.Val{num(1), num(1)}},
		{[]int{api.TNum}, []api.Val{sym("a")}},
		{[]int{api.TNum}, []api.Val{sym("")}},
		{[]int{api.TNum}, []api.Val{{N: 1, S: "a"}}},
		{[]int{api.TNum}, []api.Val{{Sym: true, N: 1}}},
		{[]int{api.TSym}, []api.Val{num(0)}},
		{[]int{api.TSym}, []api.Val{{}}},
		{[]int{api.TSym}, []api.Val{{S: "a"}}},
		{[]int{api.TSym}, []api.Val{{Sym: true, S: "a", N: 1}}},
		{[]int{api.TSym}, []api.Val{{Sym: true, N: -1}}},
		{[]int{0}, []api.Val{num(0)}},
		{[]int{3}, []api.Val{num(1)}},
		{[]int{-1}, []api.Val{{Sym: true, S: "a", N: 1}}},
		{[]int{api.TNum, api.TSym}, []api.Val{sym("a"), num(1)}},
		{[]int{api.TNum, api.TSym}, []api.Val{num(1), num(1)}},
		{[]int{api.TNum, api.TSym}, []api.Val{num(1)}},
		{[]int{api.TNum, api.TSym}, []api.Val{num(1), sym("a"), sym("a")}},
	} {
		if s, e := facts.Line(api.Decl{Rel: "a", Types: c.types}, c.row); s != "" || e != api.ErrFacts {
			t.Errorf("%v, %v: %q, %d", c.types, c.row, s, e)
		}
	}
}

// P10.2
func TestTell(t *testing.T) {
	p := program(t, mixed)
	for _, c := range []struct {
		all  named
		want string
	}{
		{nil, ""},
		{named{"e": {}, "none": {}}, ""},
		{named{"n": nums(1)}, "n\t1\n"},
		{named{"none": nums(1, 2)}, ""},
		{named{"out": nums(-1, 2, 10), "none": nums(1)}, "out\t-1\nout\t2\nout\t10\n"},
		{named{"wide": {{num(1), sym("2"), num(3), sym("4"), num(5), sym("6"), num(7), sym("8")}}, "s": syms("", "\n", "a"), "e": {{num(2), sym("a")}, {num(10), sym("a")}}, "n": nums(0)},
			"e\t2\t\"a\"\ne\t10\t\"a\"\nn\t0\ns\t\"\"\ns\t\"\\n\"\ns\t\"a\"\nwide\t1\t\"2\"\t3\t\"4\"\t5\t\"6\"\t7\t\"8\"\n"},
	} {
		if s, e := facts.Tell(p, lists(c.all)); s != c.want || e != api.OK {
			t.Errorf("%v: %q, %d, not %q", c.all, s, e, c.want)
		}
	}
	for _, all := range [][][][]api.Val{nil, {}} {
		if s, e := facts.Tell(api.Prog{}, all); s != "" || e != api.OK {
			t.Errorf("no relations: %q, %d", s, e)
		}
	}
}

// P10.2: rows are told by relations' places, where two have one name, too.
func TestTellOfTwoRelationsOfAName(t *testing.T) {
	p := program(t, ".decl a(x: number) .decl b(x: symbol)")
	p.Decls[1].Rel, p.Decls[1].Out = "a", true
	all := [][][]api.Val{nums(1), syms("s")}
	if s, e := facts.Tell(p, all); s != "a\t\"s\"\n" || e != api.OK {
		t.Errorf("the second: %q, %d", s, e)
	}
	p.Decls[0].Out = true
	if s, e := facts.Tell(p, all); s != "a\t1\na\t\"s\"\n" || e != api.OK {
		t.Errorf("both: %q, %d", s, e)
	}
}

// P10.2: of relations that are not told, too.
func TestRowsThatDoNotFitAreNotTold(t *testing.T) {
	p := program(t, mixed)
	for name, all := range map[string][][][]api.Val{
		"no lists":              nil,
		"too few":               lists(nil)[:5],
		"too many":              append(lists(nil), nil),
		"a symbol of numbers":   lists(named{"n": syms("a")}),
		"one that is not told":  lists(named{"none": syms("a")}),
		"a number of symbols":   lists(named{"s": nums(1)}),
		"a value too few":       lists(named{"e": nums(1)}),
		"a value too many":      lists(named{"n": {{num(1), num(1)}}}),
		"no values":             lists(named{"n": {{}}}),
		"a nil row":             lists(named{"none": {nil}}),
		"a number with a text":  lists(named{"n": {{{N: 1, S: "a"}}}}),
		"a symbol with one":     lists(named{"s": {{{Sym: true, S: "a", N: 1}}}}),
		"the last of some":      lists(named{"n": {{num(1)}, {num(2)}, {sym("a")}}}),
		"twice":                 lists(named{"n": nums(1, 1)}),
		"falling":               lists(named{"n": nums(2, 1)}),
		"falling, not told":     lists(named{"none": nums(2, 1)}),
		"falling as symbols do": lists(named{"n": nums(10, 9)}),
		"falling symbols":       lists(named{"s": syms("b", "a")}),
		"falling at the end":    lists(named{"out": nums(1, 2, 3, 3)}),
		"falling values":        lists(named{"e": {{num(1), sym("b")}, {num(1), sym("a")}}}),
	} {
		if s, e := facts.Tell(p, all); s != "" || e != api.ErrFacts {
			t.Errorf("%s: %q, %d", name, s, e)
		}
		if model.Fits(p, all) {
			t.Errorf("%s: %v fits", name, all)
		}
	}
}
