package dread_test

import (
	"slices"
	"strings"
	"testing"

	"sorites/api"
	"sorites/dlex"
	"sorites/dread"
	"sorites/dtree"
)

func lexed(t *testing.T, s string) []api.Tok {
	t.Helper()
	l, line, e := dlex.Lex(s)
	if e != api.OK {
		t.Fatalf("Lex(%.200q): line %d, %d", s, line, e)
	}
	return l
}

// eachOnALine gives each token a line of its own, the first one 1, so that a
// line tells of which token an answer speaks.
func eachOnALine(l []api.Tok) []api.Tok {
	l = slices.Clone(l)
	for i := range l {
		l[i].Line = i + 1
	}
	return l
}

// checkRead holds what is read from a text against a program's text.
func checkRead(t *testing.T, s, want string) api.Prog {
	t.Helper()
	p, line, e := dread.Parse(lexed(t, s))
	got, wrong := dtree.Show(p)
	if got != want || line != 0 || e != api.OK || wrong != api.OK {
		t.Errorf("%.200q: %.200q, %d, %d, not %.200q", s, got, line, e, want)
	}
	return p
}

func isNothing(p api.Prog) bool { return len(p.Decls) == 0 && len(p.Rules) == 0 }

// checkWrong lexes a text, in which a `@` stands ahead of the token whose line
// is to be told, each token on a line of its own; without a `@` that is 0.
func checkWrong(t *testing.T, s string, want api.Errno) {
	t.Helper()
	ahead, behind, marked := strings.Cut(s, "@")
	l := eachOnALine(lexed(t, ahead+" "+behind))
	place := 0
	if marked {
		place = len(lexed(t, ahead)) + 1
	}
	if p, line, e := dread.Parse(l); !isNothing(p) || line != place || e != want {
		t.Errorf("%.300q: %d relations, %d rules, %d, %d, not %d, %d", s, len(p.Decls), len(p.Rules), line, e, place, want)
	}
}

// checkPart holds a part of a body against how it is shown.
func checkPart(t *testing.T, part, want string) {
	t.Helper()
	checkRead(t, "p(1) :- "+part+".", "p(1) :- "+want+".\n")
	checkRead(t, "p(1) :- q(1), "+part+", r(2).", "p(1) :- q(1), "+want+", r(2).\n")
}

// P4.1
func TestProgramsAreRead(t *testing.T) {
	for _, c := range []struct{ s, want string }{
		{"", ""}, {"// nothing\n", ""}, {"p(1).", "p(1).\n"}, {"p(x) :- q(x), x > 1 + 2 * x.", "p(x) :- q(x), (1 + (2 * x)) < x.\n"},
		{"p(1). p(2). q(\"\").", "p(1).\np(2).\nq(\"\").\n"}, {"p(-1, \"a\\n\", -0).", "p(-1, \"a\\n\", 0).\n"},
		{"p(x, 3, \"a\") :- q(x).", "p(x, 3, \"a\") :- q(x).\n"}, {"p(1) :- p(1).", "p(1) :- p(1).\n"},
		{"p((x), ((3)), (-4), (\"a\")) :- q(x).", "p(x, 3, -4, \"a\") :- q(x).\n"}, {"p((1), ((\"a\"))).", "p(1, \"a\").\n"},
		{".decl p(a: number)", ".decl p(a: number)\n"}, {".decl p(a:number,b:symbol,a:symbol)", ".decl p(a: number, b: symbol, a: symbol)\n"},
		{".decl p(a: number) .input p", ".decl p(a: number)\n.input p\n"}, {".decl p(a: number) .output p", ".decl p(a: number)\n.output p\n"},
		{".decl p(a: number) .output p .input p", ".decl p(a: number)\n.input p\n.output p\n"},
		{".decl p(a: number) .decl q(a: symbol) .input q .output p p(1).", ".decl p(a: number)\n.output p\n.decl q(a: symbol)\n.input q\np(1).\n"},
		{"p(1). .decl p(a: number) q(2). .input p r(x) :- p(x).", ".decl p(a: number)\n.input p\np(1).\nq(2).\nr(x) :- p(x).\n"},
		{".decl number(symbol: number, number: symbol) .input number", ".decl number(symbol: number, number: symbol)\n.input number\n"},
		{".decl count(_0: number) .output count count(1).", ".decl count(_0: number)\n.output count\ncount(1).\n"},
		{".decl p(a: number) .decl p(b: symbol) .input p", ".decl p(a: number)\n.input p\n.decl p(b: symbol)\n"},
		{"_p(1) :- __(x), decl(_, x).", "_p(1) :- __(x), decl(_, x).\n"},
	} {
		checkRead(t, c.s, c.want)
	}
}

// P4.1
func TestPartsAreRead(t *testing.T) {
	for _, c := range []struct{ s, want string }{
		{"q(x)", "q(x)"}, {"!q(x)", "!q(x)"}, {"q(_, 1, \"a\", x + 1, (x))", "q(_, 1, \"a\", (x + 1), x)"}, {"!q(_, -1)", "!q(_, -1)"},
		{"x = y", "x = y"}, {"x != y", "x != y"}, {"x < y", "x < y"}, {"x <= y", "x <= y"}, {"x > y", "y < x"}, {"x >= y", "y <= x"},
		{"\"a\" = x", "\"a\" = x"}, {"(\"a\") != ((x))", "\"a\" != x"}, {"1 > \"a\"", "\"a\" < 1"}, {"1 + x >= 2 * x", "(2 * x) <= (1 + x)"},
		{"(x) < (y)", "x < y"}, {"(x + 1) < y", "(x + 1) < y"}, {"-1 < -2", "-1 < -2"}, {"1 = -2 * y1", "1 = (-2 * y1)"},
		{"n = count : { q(_) }", "n = count : { q(_) }"}, {"3 = count : { q(x + 1) }", "3 = count : { q((x + 1)) }"}, {"-3 = count : { q(1) }", "-3 = count : { q(1) }"},
		{"n = sum x : { q(x) }", "n = sum x : { q(x) }"}, {"n = min x : { q(x, _) }", "n = min x : { q(x, _) }"}, {"0 = max x : { q(x) }", "0 = max x : { q(x) }"},
		{"(n) = sum x : { q(x) }", "n = sum x : { q(x) }"}, {"((-7)) = count : { q(x) }", "-7 = count : { q(x) }"},
		{"count = count : { count(count) }", "count = count : { count(count) }"}, {"sum = sum sum : { sum(sum) }", "sum = sum sum : { sum(sum) }"},
		{"n = max count : { q(n) }", "n = max count : { q(n) }"}, {"count = n", "count = n"}, {"n = count", "n = count"}, {"n = sum", "n = sum"},
		{"n = count + 1", "n = (count + 1)"}, {"n = min * max", "n = (min * max)"}, {"n != count", "n != count"}, {"count < sum", "count < sum"},
		{"count(1)", "count(1)"}, {"!sum(x)", "!sum(x)"}, {"min(x), max = 1", "min(x), max = 1"}, {"(count) = 1", "count = 1"}, {"n = (sum)", "n = sum"},
	} {
		checkPart(t, c.s, c.want)
	}
}

// P4.1
func TestExpressionsAreRead(t *testing.T) {
	for _, c := range []struct{ s, want string }{
		{"x", "x"}, {"7", "7"}, {"-7", "-7"}, {"- 7", "-7"}, {"9223372036854775807", "9223372036854775807"}, {"-9223372036854775807", "-9223372036854775807"},
		{"\"a\"", "\"a\""}, {"(((x)))", "x"}, {"(-7)", "-7"}, {"(\"_\")", "\"_\""}, {"-0", "0"},
		{"a + b", "(a + b)"}, {"a - b", "(a - b)"}, {"a * b", "(a * b)"}, {"a + b + c", "((a + b) + c)"}, {"a - b - c", "((a - b) - c)"},
		{"a - b + c - d", "(((a - b) + c) - d)"}, {"a * b * c", "((a * b) * c)"}, {"a + b * c", "(a + (b * c))"}, {"a * b + c", "((a * b) + c)"},
		{"a * b + c * d - e * f", "(((a * b) + (c * d)) - (e * f))"}, {"a - b * c * d + e", "((a - ((b * c) * d)) + e)"},
		{"(a + b) * c", "((a + b) * c)"}, {"a * (b + c)", "(a * (b + c))"}, {"a - (b - c)", "(a - (b - c))"}, {"a * (b * c)", "(a * (b * c))"},
		{"a -1", "(a - 1)"}, {"a - -1", "(a - -1)"}, {"1-2", "(1 - 2)"}, {"-1-2", "(-1 - 2)"}, {"-1 - -2", "(-1 - -2)"}, {"-1*-2", "(-1 * -2)"},
		{"((a) + ((1)))", "(a + 1)"}, {"(a)*(b)", "(a * b)"}, {"-3 - x - 1", "((-3 - x) - 1)"},
	} {
		checkPart(t, c.s+" = z", c.want+" = z")
		checkPart(t, "z != "+c.s, "z != "+c.want)
		checkPart(t, "q(_, "+c.s+", "+c.s+")", "q(_, "+c.want+", "+c.want+")")
		checkPart(t, "("+c.s+") < ("+c.s+")", c.want+" < "+c.want)
	}
}

// P4.1
func TestThingsHaveTheLinesOfTheirFirstTokens(t *testing.T) {
	p := checkRead(t, "\n.decl\np(\na: number)\n\np\n(1\n). q(x\n) :- p(x).\n.input p .decl q(a: number)\nq(2).", ".decl p(a: number)\n.input p\n.decl q(a: number)\np(1).\nq(x) :- p(x).\nq(2).\n")
	var lines []int
	for _, d := range p.Decls {
		lines = append(lines, d.Line)
	}
	for _, r := range p.Rules {
		lines = append(lines, r.Line)
	}
	if !slices.Equal(lines, []int{2, 10, 6, 8, 11}) {
		t.Errorf("%v", lines)
	}
	l := lexed(t, "p(1). p(2). .decl p(a: number)")
	l[0].Line, l[5].Line, l[10].Line = -1, 1<<40, 0
	q, _, e := dread.Parse(l)
	if e != api.OK || q.Rules[0].Line != -1 || q.Rules[1].Line != 1<<40 || q.Decls[0].Line != 0 {
		t.Errorf("%v, %d", q, e)
	}
}

// P4.1
func TestWhatIsReadHasNothingBesides(t *testing.T) {
	p := checkRead(t, "p(x, -2) :- !q(_, \"a\"), 1 > x * 2, n = count : { q(1) }, 3 = max y : { q(y) }.", "p(x, -2) :- !q(_, \"a\"), (x * 2) < 1, n = count : { q(1) }, 3 = max y : { q(y) }.\n")
	x, y, n := api.Term{Op: api.OVar, S: "x"}, api.Term{Op: api.OVar, S: "y"}, api.Term{Op: api.OVar, S: "n"}
	number := func(n int64) api.Term { return api.Term{Op: api.OInt, N: n} }
	want := api.Prog{Rules: []api.Rule{{Line: 1, Head: api.Atom{Rel: "p", L: []api.Term{x, number(-2)}}, Body: []api.Lit{
		{Op: api.LNot, A: api.Atom{Rel: "q", L: []api.Term{{Op: api.OAny}, {Op: api.OSym, S: "a"}}}},
		{Op: api.LLt, X: api.Term{Op: api.OMul, L: []api.Term{x, number(2)}}, Y: number(1)},
		{Op: api.LCount, A: api.Atom{Rel: "q", L: []api.Term{number(1)}}, X: n},
		{Op: api.LMax, A: api.Atom{Rel: "q", L: []api.Term{y}}, X: number(3), Y: y},
	}}}}
	if !dtree.Same(p, want) || p.Rules[0].Line != 1 {
		t.Errorf("%v", p)
	}
}

// P4.1, R3
func TestNilAndEmptyAreTheEmptyProgram(t *testing.T) {
	for _, l := range [][]api.Tok{nil, {}} {
		if p, line, e := dread.Parse(l); !isNothing(p) || line != 0 || e != api.OK {
			t.Errorf("%v, %d, %d", p, line, e)
		}
	}
}

// R3
func TestTokensAreNeitherWrittenNorKept(t *testing.T) {
	s := ".decl q(a: number) .input q p(x) :- q(x), y = x + 1, !q(y), n = sum z : { q(z) }, \"a\" > m."
	l := append(lexed(t, s), api.Tok{Kind: 9, S: "spare", Line: 9})
	before := slices.Clone(l)
	p, _, e := dread.Parse(l[:len(l)-1])
	if e != api.OK || !slices.Equal(l, before) {
		t.Errorf("%d, %v", e, l)
	}
	want, _ := dtree.Show(p)
	clear(l)
	if got, _ := dtree.Show(p); got != want {
		t.Errorf("%q, then %q", want, got)
	}
}

// R3
func TestNoTwoListsOfAProgramShareMemory(t *testing.T) {
	s := ".decl p(a: number, b: number) .decl q(a: symbol, b: symbol) p(1, 2). p(3, 4). p(x, y) :- p(x, y), y > x * x + 1, !q(x, x * 2), x = count : { p(_, 5) }."
	p, _, _ := dread.Parse(lexed(t, s))
	want, _ := dtree.Show(p)
	whole := func(at *[]api.Term) { _ = append(*at, api.Term{Op: 99}) }
	eachListOfTerms(p, whole)
	for _, d := range p.Decls {
		_, _ = append(d.Names, "spoilt"), append(d.Types, 99)
	}
	for _, r := range p.Rules {
		_ = append(r.Body, api.Lit{Op: 99})
	}
	if got, _ := dtree.Show(p); got != want {
		t.Errorf("%q, then %q", want, got)
	}
	count := 0
	eachListOfTerms(p, func(l *[]api.Term) {
		for i := range *l {
			(*l)[i].N += 1000000
			count++
		}
	})
	eachListOfTerms(p, func(l *[]api.Term) {
		for i := range *l {
			if n := (*l)[i].N; n < 1000000 || n > 1000010 {
				t.Errorf("%d", n)
			}
		}
	})
	if count != 18 {
		t.Errorf("%d terms", count)
	}
}

func eachListOfTerms(p api.Prog, f func(*[]api.Term)) {
	var within func(l *[]api.Term)
	within = func(l *[]api.Term) {
		f(l)
		for i := range *l {
			within(&(*l)[i].L)
		}
	}
	for i := range p.Rules {
		r := &p.Rules[i]
		within(&r.Head.L)
		for k := range r.Body {
			within(&r.Body[k].A.L)
			within(&r.Body[k].X.L)
			within(&r.Body[k].Y.L)
		}
	}
}

// R4
func TestAnswersHangOnTheTokensAlone(t *testing.T) {
	good, bad := lexed(t, ".decl p(a: number) .input p p(1)."), lexed(t, ".decl p(a: number) .output p .output p")
	for i := range 3 {
		p, line, e := dread.Parse(good)
		if s, _ := dtree.Show(p); s != ".decl p(a: number)\n.input p\np(1).\n" || line != 0 || e != api.OK {
			t.Errorf("%d: %q, %d, %d", i, s, line, e)
		}
		if p, line, e := dread.Parse(bad); !isNothing(p) || line != 1 || e != api.ErrParse {
			t.Errorf("%d: %v, %d, %d", i, p, line, e)
		}
	}
}
