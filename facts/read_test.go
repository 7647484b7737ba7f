package facts_test

import (
	"math"
	"slices"
	"strconv"
	"strings"
	"testing"

	"sorites/api"
	"sorites/dlex"
	"sorites/dread"
	"sorites/facts"
	"sorites/rel"
)

func num(n int64) api.Val { return api.Val{N: n} }

func sym(s string) api.Val { return api.Val{Sym: true, S: s} }

func nums(l ...int64) [][]api.Val {
	var rows [][]api.Val
	for _, n := range l {
		rows = append(rows, []api.Val{num(n)})
	}
	return rows
}

func syms(l ...string) [][]api.Val {
	var rows [][]api.Val
	for _, s := range l {
		rows = append(rows, []api.Val{sym(s)})
	}
	return rows
}

func same(a, b [][]api.Val) bool { return slices.EqualFunc(a, b, slices.Equal) }

func allSame(a, b [][][]api.Val) bool { return slices.EqualFunc(a, b, same) }

func program(t *testing.T, s string) api.Prog {
	t.Helper()
	l, line, e := dlex.Lex(s)
	if e != api.OK {
		t.Fatalf("%q: %d in line %d", s, e, line)
	}
	p, line, e := dread.Parse(l)
	if e != api.OK {
		t.Fatalf("%q: %d in line %d", s, e, line)
	}
	return p
}

// mixed has relations that are read and told, that are read, that are told,
// and that are neither.
const mixed = `
.decl e(a: number, b: symbol)
.decl n(a: number)
.decl s(a: symbol)
.decl out(a: number)
.decl none(a: number)
.decl wide(a: number, b: symbol, c: number, d: symbol, e: number, f: symbol, g: number, h: symbol)
.input e .input n .input s .input wide
.output e .output n .output s .output out .output wide
n(x) :- e(x, _).
`

// lists are the rows of mixed's relations, of those that are named.
func lists(named map[string][][]api.Val) [][][]api.Val {
	var all [][][]api.Val
	for _, name := range strings.Fields("e n s out none wide") {
		all = append(all, named[name])
	}
	return all
}

type named map[string][][]api.Val

func checkRead(t *testing.T, p api.Prog, s string, want [][][]api.Val) {
	t.Helper()
	if all, line, e := facts.Read(p, s); !allSame(all, want) || line != 0 || e != api.OK {
		t.Errorf("%.200q: %v, %d, %d, not %v", s, all, line, e, want)
	}
}

func checkRefused(t *testing.T, p api.Prog, s string, line int, e api.Errno) {
	t.Helper()
	if all, gotLine, got := facts.Read(p, s); all != nil || gotLine != line || got != e {
		t.Errorf("%.200q: %v, %d, %d, not %d, %d", s, all, gotLine, got, line, e)
	}
}

// P10.1
func TestRead(t *testing.T) {
	p := program(t, mixed)
	for s, want := range map[string]named{
		"":                                  nil,
		"e\t1\t\"a\"\n":                     {"e": {{num(1), sym("a")}}},
		"n\t0\n":                            {"n": nums(0)},
		"s\t\"\"\n":                         {"s": syms("")},
		"n\t3\nn\t-1\nn\t20\nn\t3\nn\t1\n":  {"n": nums(-1, 1, 3, 20)},
		"s\t\"b\"\nn\t1\ns\t\"a\"\nn\t-1\n": {"s": syms("a", "b"), "n": nums(-1, 1)},
		"e\t2\t\"a\"\ne\t1\t\"b\"\ne\t10\t\"\"\ne\t1\t\"a\"\ne\t1\t\"b\"\n": {
			"e": {{num(1), sym("a")}, {num(1), sym("b")}, {num(2), sym("a")}, {num(10), sym("")}},
		},
		"n\t9223372036854775807\nn\t-9223372036854775808\n": {"n": nums(math.MinInt64, math.MaxInt64)},
		"wide\t1\t\"2\"\t3\t\"4\"\t5\t\"6\"\t7\t\"8\"\n":    {"wide": {{num(1), sym("2"), num(3), sym("4"), num(5), sym("6"), num(7), sym("8")}}},
		"s\t\"\\n\"\ns\t\"\\x09\"\ns\t\"e \\\"\\\\\"\n":     {"s": syms("\t", "\n", "e \"\\")},
		"s\t\"\\xff\"\ns\t\"\\x00\"\ns\t\"n\"\ns\t\"-1\"\n": {"s": syms("\x00", "-1", "n", "\xff")},
	} {
		checkRead(t, p, s, lists(want))
	}
}

// P10.1: what has no relations reads no lines.
func TestReadOfNoRelations(t *testing.T) {
	checkRead(t, api.Prog{}, "", nil)
	checkRefused(t, api.Prog{}, "\n", 1, api.ErrFactRel)
	checkRefused(t, api.Prog{}, "p\t1\n", 1, api.ErrFactRel)
	checkRefused(t, api.Prog{}, "p", 1, api.ErrFactEnd)
}

// P10.1
func TestWhatIsNoLine(t *testing.T) {
	p := program(t, mixed)
	for e, l := range map[api.Errno][]string{
		api.ErrFactEnd: {"n\t1", "n", "n\t", "q", "\t", " ", "n\t01", "n\t1\t2", "s\t\"a", "\r", "\x00", "out\t1", "e\t1"},
		api.ErrFactRel: {
			"\n", "q\n", "q\t1\n", "\t1\n", "\tn\t1\n", " n\t1\n", "n 1\n", "n \t1\n", "N\t1\n", "nn\t1\n", "ne\t1\n", "wid\t1\n", "n\r\n", "n\x00\t1\n",
			"out\t1\n", "none\t1\n", "none\n", "out\n", "\r\n", "\"n\"\t1\n", ".input n\n", "n(1).\n", "_\t1\n", "1\n", "// n\n", "\xff\n",
		},
		api.ErrFactCols: {
			"n\n", "n\t1\t2\n", "n\t1\t\n", "n\t\t\n", "n\t\t1\n", "n\t1\t\"a\"\n", "e\n", "e\t1\n", "e\t\"a\"\n", "e\t1\t\"a\"\t\n", "e\t1\t\"a\"\t1\n", "s\n",
			"e\t\n", "e\tx\n", "n\tx\ty\n", "s\t\"a\t\"\n", "wide\t1\t\"2\"\t3\t\"4\"\t5\t\"6\"\t7\n", "wide\t1\t\"2\"\t3\t\"4\"\t5\t\"6\"\t7\t\"8\"\t9\n",
			"n" + strings.Repeat("\t", 1<<20) + "\n", "wide" + strings.Repeat("\t1", 7) + "\n", "wide" + strings.Repeat("\t1", 9) + "\n",
		},
		api.ErrFactNum: {
			"n\t\n", "n\t01\n", "n\t-0\n", "n\t+1\n", "n\t 1\n", "n\t1 \n", "n\t1\r\n", "n\t\"1\"\n", "n\t\"a\"\n", "n\ta\n", "n\t-\n", "n\t--1\n", "n\t1.\n", "n\t0x1\n", "n\t1_0\n",
			"n\t9223372036854775808\n", "n\t-9223372036854775809\n", "n\t" + strings.Repeat("9", 1000) + "\n", "n\t\u0661\n", "n\t1\x00\n", "n\tn\n",
			"e\tx\t\"a\"\n", "e\tx\ta\n", "e\t\t\n", "e\t\t\"a\"\n", "e\t\"a\"\t1\n", "wide\tx\t2\t3\t4\t5\t6\t7\t8\n", "wide\t1\t\"2\"\t3\t\"4\"\t5\t\"6\"\t07\t8\n",
		},
		api.ErrFactSym: {
			"s\t\n", "s\ta\n", "s\t1\n", "s\t\"\n", "s\t\"a\n", "s\ta\"\n", "s\t'a'\n", "s\t\"a\" \n", "s\t \"a\"\n", "s\t\"a\"\r\n", "s\t\"a\"\"b\"\n", "s\t\"\"\"\n",
			"s\t\"\\\"\n", "s\t\"\\t\"\n", "s\t\"\\x41\"\n", "s\t\"\\x0a\"\n", "s\t\"\\x0A\"\n", "s\t\"\\xFF\"\n", "s\t\"\x07\"\n", "s\t\"\x7f\"\n", "s\t\"\u00e4\"\n", "s\t\"\xff\"\n",
			"e\t1\t\n", "e\t1\t1\n", "e\t1\ta\n", "e\t1\t\"a\"b\n", "wide\t1\t2\tx\t4\t5\t6\t7\t8\n", "wide\t1\t\"2\"\t3\t\"4\"\t5\t6\tx\t\"8\"\n", "wide\t1\t\"2\"\t3\t\"4\"\t5\t\"6\"\t7\t8\n",
		},
	} {
		for _, s := range l {
			checkRefused(t, p, s, 1, e)
			checkRefused(t, p, "n\t1\nn\t1\ns\t\"b\"\n"+s, 4, e)
		}
	}
}

// P10.1: the first line that is none is told, whatever comes behind it.
func TestTheFirstLineThatIsNone(t *testing.T) {
	p := program(t, mixed)
	right, errs := "n\t1\n", map[string]api.Errno{"q\t1\n": api.ErrFactRel, "n\n": api.ErrFactCols, "n\tx\n": api.ErrFactNum, "s\tx\n": api.ErrFactSym}
	for first, e := range errs {
		for second := range errs {
			checkRefused(t, p, first+second, 1, e)
			checkRefused(t, p, right+first+right+second+right, 2, e)
			checkRefused(t, p, strings.Repeat(right, 300)+first+second+"n", 301, e)
		}
		checkRefused(t, p, first+"n", 1, e)
		checkRefused(t, p, first+right+"n\t1", 1, e)
		checkRefused(t, p, right+right+"n\t1"+first, 3, map[string]api.Errno{
			"q\t1\n": api.ErrFactCols, "n\n": api.ErrFactNum, "n\tx\n": api.ErrFactCols, "s\tx\n": api.ErrFactCols}[first])
	}
	checkRefused(t, p, right+right+"\n"+right, 3, api.ErrFactRel)
	checkRefused(t, p, right+right+"\n", 3, api.ErrFactRel)
	checkRefused(t, p, right+right+"n\t1", 3, api.ErrFactEnd)
}

// P10.1: a symbol's text has neither the byte 09 nor the byte 0A.
func TestBytesThatPart(t *testing.T) {
	p := program(t, mixed)
	checkRefused(t, p, "s\t\"a\nb\"\n", 1, api.ErrFactSym)
	checkRefused(t, p, "s\t\"a\n", 1, api.ErrFactSym)
	checkRefused(t, p, "s\t\"a\tb\"\n", 1, api.ErrFactCols)
	checkRefused(t, p, "e\t1\t\"\t\"\n", 1, api.ErrFactCols)
	checkRefused(t, p, "s\t\"\\\n\"\n", 1, api.ErrFactSym)
	checkRefused(t, p, "n\n\t1\n", 1, api.ErrFactCols)
	checkRefused(t, p, "n\t\n1\n", 1, api.ErrFactNum)
}

// P10.1: the first relation of a name counts, be it read or not.
func TestTheFirstRelationOfANameCounts(t *testing.T) {
	number, symbol := program(t, ".decl a(x: number)").Decls[0], program(t, ".decl a(x: symbol)").Decls[0]
	for _, c := range []struct {
		firstIn, secondIn bool
		s                 string
		e                 api.Errno
	}{
		{true, true, "a\t1\n", api.OK},
		{true, false, "a\t1\n", api.OK},
		{true, true, "a\t\"s\"\n", api.ErrFactNum},
		{false, true, "a\t\"s\"\n", api.ErrFactRel},
		{false, true, "a\t1\n", api.ErrFactRel},
		{false, false, "a\t1\n", api.ErrFactRel},
	} {
		number.In, symbol.In = c.firstIn, c.secondIn
		p := api.Prog{Decls: []api.Decl{number, symbol}}
		if c.e == api.OK {
			checkRead(t, p, c.s, [][][]api.Val{nums(1), nil})
		} else {
			checkRefused(t, p, c.s, 1, c.e)
		}
	}
}

// P10.1: what is not typed, safe or layered is read for, too.
func TestReadAsksOnlyForRightPrograms(t *testing.T) {
	for _, s := range []string{
		"b(1).", "a(1, 2).", "a(\"s\").", "a(x) :- a(y).", "a(x) :- a(x), !a(x).", "a(y) :- a(x), y = x + 1.", "a(7).",
	} {
		p := program(t, ".decl a(x: number) .input a .output a "+s)
		checkRead(t, p, "a\t1\n", [][][]api.Val{nums(1)})
		if got, e := facts.Tell(p, [][][]api.Val{nums(1)}); got != "a\t1\n" || e != api.OK {
			t.Errorf("%q: %q, %d", s, got, e)
		}
	}
}

// wrongPrograms are no programs, of one relation of a number.
func wrongPrograms() map[string]api.Prog {
	one := api.Decl{Rel: "a", Names: []string{"x"}, Types: []int{api.TNum}, In: true, Out: true}
	with := func(change func(d *api.Decl)) api.Prog {
		d := one
		change(&d)
		return api.Prog{Decls: []api.Decl{d}}
	}
	fact := api.Rule{Head: api.Atom{Rel: "a", L: []api.Term{{Op: api.OInt}}}}
	self := api.Term{Op: api.OAdd, L: make([]api.Term, 2)}
	self.L[0], self.L[1] = self, self
	return map[string]api.Prog{
		"no name":        with(func(d *api.Decl) { d.Rel = "" }),
		"a wrong name":   with(func(d *api.Decl) { d.Rel = "a\t1\na" }),
		"a wrong column": with(func(d *api.Decl) { d.Names = []string{"1"} }),
		"no columns":     with(func(d *api.Decl) { d.Names, d.Types = nil, nil }),
		"no type":        with(func(d *api.Decl) { d.Types = nil }),
		"a wrong type":   with(func(d *api.Decl) { d.Types = []int{3} }),
		"type 0":         with(func(d *api.Decl) { d.Types = []int{0} }),
		"no rule":        {Decls: []api.Decl{one}, Rules: []api.Rule{{}}},
		"many rules":     {Decls: []api.Decl{one}, Rules: slices.Repeat([]api.Rule{fact}, api.MaxRules+1)},
		"many relations": {Decls: slices.Repeat([]api.Decl{one}, api.MaxDecls+1)},
		"terms in terms": {Decls: []api.Decl{one}, Rules: []api.Rule{{Head: fact.Head, Body: []api.Lit{{Op: api.LEq, X: self, Y: self}}}}},
	}
}

// P10.1, P10.2: ErrTree comes ahead of all that is wrong with the rest.
func TestWrongPrograms(t *testing.T) {
	for name, p := range wrongPrograms() {
		for _, s := range []string{"", "a\t1\n", "a\tx\n", "a\n", "q\n", "a"} {
			if all, line, e := facts.Read(p, s); all != nil || line != 0 || e != api.ErrTree {
				t.Errorf("%s, %q: Read: %v, %d, %d", name, s, all, line, e)
			}
		}
		for _, all := range [][][][]api.Val{nil, {nil}, {nums(1)}, {nums(1, 1)}, {syms("a")}, slices.Repeat([][][]api.Val{nil}, len(p.Decls))} {
			if s, e := facts.Tell(p, all); s != "" || e != api.ErrTree {
				t.Errorf("%s, %v: Tell: %q, %d", name, all, s, e)
			}
		}
	}
}

// P10.1: as many relations and columns as there can be.
func TestReadAtTheLimits(t *testing.T) {
	var p api.Prog
	var s strings.Builder
	want := make([][][]api.Val, api.MaxDecls)
	for i := range api.MaxDecls {
		name := strings.Repeat("n", api.MaxName-2) + strconv.Itoa(10+i)
		d := api.Decl{Rel: name, In: true, Line: math.MinInt}
		var row []api.Val
		for c := range 1 + i%api.MaxCols {
			d.Names, d.Types, row = append(d.Names, "x"), append(d.Types, api.TNum), append(row, num(int64(i*c)))
		}
		p.Decls = append(p.Decls, d)
		want[i] = [][]api.Val{row}
		l, _ := facts.Line(d, row)
		s.WriteString(l)
	}
	checkRead(t, p, s.String(), want)
	checkRead(t, p, s.String()+s.String(), want)
}

// P10.1: long streams, long symbols.
func TestLongStreams(t *testing.T) {
	p := program(t, mixed)
	const many = 200000
	var s strings.Builder
	var want [][]api.Val
	for n := range int64(many) {
		s.WriteString("n\t" + strconv.FormatInt(n*7919%many, 10) + "\n")
		want = append(want, []api.Val{num(n)})
	}
	checkRead(t, p, s.String(), lists(named{"n": want}))
	checkRefused(t, p, s.String()+"n\t1", many+1, api.ErrFactEnd)
	checkRefused(t, p, s.String()+"n\t01\n", many+1, api.ErrFactNum)
	long := strings.Repeat("a\n\xff", 1<<20)
	l, e := facts.Line(p.Decls[2], []api.Val{sym(long)})
	if e != api.OK {
		t.Fatal(e)
	}
	checkRead(t, p, l+l, lists(named{"s": syms(long)}))
}

// P10.1: what is answered rises as chapter 8 says.
func TestReadRowsRise(t *testing.T) {
	p := program(t, mixed)
	all, _, _ := facts.Read(p, "s\t\"b\"\ns\t\"\\xff\"\ns\t\"ab\"\ns\t\"\"\ns\t\"a\"\ns\t\"B\"\nn\t10\nn\t9\nn\t-10\nn\t-9\n")
	if !allSame(all, lists(named{"s": syms("", "B", "a", "ab", "b", "\xff"), "n": nums(-10, -9, 9, 10)})) {
		t.Error(all)
	}
	for _, l := range all {
		if !rel.Rise(l) {
			t.Error(l)
		}
	}
}
