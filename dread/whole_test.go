package dread_test

import (
	"math"
	"math/rand"
	"strconv"
	"strings"
	"testing"

	"sorites/api"
	"sorites/dlex"
	"sorites/dread"
	"sorites/dtree"
	"sorites/text"
)

// What is made here are right programs, by chance.

func aName(rng *rand.Rand) string {
	names := []string{"x", "y", "z", "_x", "__", "A1", "count", "sum", "min", "max", "number", "symbol", "decl", "input", strings.Repeat("n", 40)}
	return names[rng.Intn(len(names))]
}

func aNumber(rng *rand.Rand) api.Term {
	numbers := []int64{0, 1, -1, 7, -10, 1 << 40, math.MaxInt64, -math.MaxInt64}
	return api.Term{Op: api.OInt, N: numbers[rng.Intn(len(numbers))]}
}

func aSymbol(rng *rand.Rand) api.Term {
	symbols := []string{"", "a", "x, y", "\"", "\\", "\n", "\x00\xff", "_", "// no", ")."}
	return api.Term{Op: api.OSym, S: symbols[rng.Intn(len(symbols))]}
}

func aVariable(rng *rand.Rand) api.Term { return api.Term{Op: api.OVar, S: aName(rng)} }

func aSum(rng *rand.Rand, high int) api.Term {
	if high < 2 || rng.Intn(3) == 0 {
		if rng.Intn(2) == 0 {
			return aNumber(rng)
		}
		return aVariable(rng)
	}
	return api.Term{Op: api.OAdd + rng.Intn(3), L: []api.Term{aSum(rng, high-1), aSum(rng, 1+rng.Intn(high-1))}}
}

func anExpression(rng *rand.Rand) api.Term {
	if rng.Intn(4) == 0 {
		return aSymbol(rng)
	}
	return aSum(rng, 1+rng.Intn(6))
}

func anAtom(rng *rand.Rand, argument func(*rand.Rand) api.Term) api.Atom {
	a := api.Atom{Rel: aName(rng)}
	for range 1 + rng.Intn(4) {
		a.L = append(a.L, argument(rng))
	}
	return a
}

func anArgument(rng *rand.Rand) api.Term {
	if rng.Intn(5) == 0 {
		return api.Term{Op: api.OAny}
	}
	return anExpression(rng)
}

func aPart(rng *rand.Rand) api.Lit {
	l := api.Lit{Op: 1 + rng.Intn(api.LMax)}
	switch {
	case l.Op <= api.LNot:
		l.A = anAtom(rng, anArgument)
	case l.Op <= api.LLe:
		l.X, l.Y = anExpression(rng), anExpression(rng)
	default:
		l.A, l.X = anAtom(rng, anArgument), aVariable(rng)
		if rng.Intn(3) == 0 {
			l.X = aNumber(rng)
		}
		if l.Op != api.LCount {
			l.Y = aVariable(rng)
		}
	}
	return l
}

func aRule(rng *rand.Rand, parts int) api.Rule {
	plain := []func(*rand.Rand) api.Term{aNumber, aSymbol, aVariable}
	if parts == 0 {
		plain = plain[:2]
	}
	r := api.Rule{Head: anAtom(rng, func(rng *rand.Rand) api.Term { return plain[rng.Intn(len(plain))](rng) })}
	for range parts {
		r.Body = append(r.Body, aPart(rng))
	}
	return r
}

func aProg(rng *rand.Rand, decls, rules, parts int) api.Prog {
	var p api.Prog
	for i := range decls {
		d := api.Decl{Rel: aName(rng)[:1] + strconv.Itoa(i), In: rng.Intn(2) == 0, Out: rng.Intn(2) == 0}
		for range 1 + rng.Intn(api.MaxCols) {
			d.Names, d.Types = append(d.Names, aName(rng)), append(d.Types, 1+rng.Intn(2))
		}
		p.Decls = append(p.Decls, d)
	}
	for range rules {
		p.Rules = append(p.Rules, aRule(rng, rng.Intn(parts+1)))
	}
	return p
}

// fewThings is a program of few tokens.
func fewThings(rng *rand.Rand) api.Prog {
	p := aProg(rng, 1+rng.Intn(2), 1+rng.Intn(2), 2)
	for i := range p.Decls {
		p.Decls[i].Names, p.Decls[i].Types = p.Decls[i].Names[:1], p.Decls[i].Types[:1]
	}
	return p
}

func textOfProg(t *testing.T, p api.Prog) string {
	t.Helper()
	s, e := dtree.Show(p)
	if e != api.OK {
		t.Fatalf("no right program: %v", p)
	}
	return s
}

// checkLines holds the lines of what was read from a program's text against
// where its things begin there.
func checkLines(t *testing.T, p api.Prog, s string) {
	t.Helper()
	decl, rule := 0, 0
	for i, line := range strings.Split(strings.TrimSuffix(s, "\n"), "\n") {
		at := i + 1
		switch {
		case line == "" || line[0] == '.' && !strings.HasPrefix(line, ".decl"):
			continue
		case line[0] == '.':
			at, decl = p.Decls[decl].Line, decl+1
		default:
			at, rule = p.Rules[rule].Line, rule+1
		}
		if at != i+1 {
			t.Fatalf("line %d is told as %d: %q", i+1, at, line)
		}
	}
}

// P4.2
func TestRightProgramsAreReadFromTheirTexts(t *testing.T) {
	rng := rand.New(rand.NewSource(1))
	for i := range 3000 {
		p := aProg(rng, rng.Intn(8), rng.Intn(8), 6)
		if i%100 == 0 {
			p = aProg(rng, api.MaxDecls, api.MaxRules, 2)
		}
		s := textOfProg(t, p)
		l, _, e := dlex.Lex(s)
		if e != api.OK {
			t.Fatalf("%d bytes: %d", len(s), e)
		}
		got, line, e := dread.Parse(l)
		if !dtree.Same(p, got) || line != 0 || e != api.OK {
			t.Fatalf("%s: %v, %d, %d", s, got, line, e)
		}
		checkLines(t, got, s)
		if again := textOfProg(t, got); again != s {
			t.Fatalf("%s, then %s", s, again)
		}
	}
}

// P4.2
func TestTheGreatestThingsAreReadFromTheirTexts(t *testing.T) {
	deep := func(left bool) api.Term {
		x := api.Term{Op: api.OVar, S: strings.Repeat("x", 40)}
		for range api.MaxDeep - 1 {
			two := []api.Term{x, {Op: api.OInt, N: -7}}
			if !left {
				two[0], two[1] = two[1], two[0]
			}
			x = api.Term{Op: api.OSub, L: two}
		}
		return x
	}
	a := api.Atom{Rel: strings.Repeat("q", 40)}
	for i := range api.MaxCols {
		a.L = append(a.L, deep(i%2 == 0))
	}
	r := api.Rule{Head: api.Atom{Rel: "p", L: []api.Term{{Op: api.OSym, S: "\xff"}}}}
	for i := range api.MaxBody {
		r.Body = append(r.Body, api.Lit{Op: api.LAtom + i%2, A: a})
	}
	p := api.Prog{Rules: []api.Rule{r}}
	l, _, _ := dlex.Lex(textOfProg(t, p))
	got, line, e := dread.Parse(l)
	if !dtree.Same(p, got) || line != 0 || e != api.OK {
		t.Errorf("%d tokens: %d, %d", len(l), line, e)
	}
}

// P4.2
func TestOfTwoRelationsOfOneNameTheFirstIsMarked(t *testing.T) {
	one := api.Decl{Rel: "p", Names: []string{"a"}, Types: []int{1}}
	marked := one
	marked.In, marked.Out = true, true
	s := textOfProg(t, api.Prog{Decls: []api.Decl{one, marked}})
	got, _, e := dread.Parse(lexed(t, s))
	if !dtree.Same(got, api.Prog{Decls: []api.Decl{marked, one}}) || e != api.OK {
		t.Errorf("%v, %d", got, e)
	}
}

// loosely is an expression's text with no more brackets than it needs, but
// some that leave it as it is.
func loosely(rng *rand.Rand, x api.Term) string {
	s := ""
	switch x.Op {
	case api.OVar:
		s = x.S
	case api.OInt:
		s = text.Num(x.N)
	case api.OSym:
		s = text.Quote(x.S)
	case api.OMul:
		s = bracketed(loosely(rng, x.L[0]), x.L[0].Op == api.OAdd || x.L[0].Op == api.OSub) + "*" + bracketed(loosely(rng, x.L[1]), x.L[1].Op >= api.OAdd)
	default:
		sign := map[int]string{api.OAdd: "+", api.OSub: " - "}[x.Op]
		s = loosely(rng, x.L[0]) + sign + bracketed(loosely(rng, x.L[1]), x.L[1].Op == api.OAdd || x.L[1].Op == api.OSub)
	}
	return s
}

func bracketed(s string, needed bool) string {
	if needed {
		return "( " + s + ")"
	}
	return s
}

// P4.1
func TestExpressionsAreReadWithFewBracketsAndWithMany(t *testing.T) {
	rng := rand.New(rand.NewSource(2))
	for range 5000 {
		x, y := anExpression(rng), anExpression(rng)
		want := api.Prog{Rules: []api.Rule{{
			Head: api.Atom{Rel: "p", L: []api.Term{{Op: api.OInt, N: 1}}},
			Body: []api.Lit{{Op: api.LNot, A: api.Atom{Rel: "q", L: []api.Term{x, y}}}, {Op: api.LLe, X: x, Y: y}},
		}}}
		a, b := loosely(rng, x), loosely(rng, y)
		for range rng.Intn(3) {
			a = bracketed(a, true)
		}
		s := "p((1)) :- !q(" + a + "," + b + "), " + bracketed(b, true) + " >= " + a + "."
		got, _, e := dread.Parse(lexed(t, s))
		if !dtree.Same(got, want) || e != api.OK {
			t.Fatalf("%s: %v, %d", s, got, e)
		}
	}
}

// P4.2
func TestWhatIsReadIsRight(t *testing.T) {
	rng := rand.New(rand.NewSource(3))
	pieces := []string{"p(1).", "p(x)", ":-", "q(x, _)", ",", ".", "x", "=", "+ 1", "count", ":", "{", "}", "sum y", "!", "> 2 *", "(", ")", "\"a\"", ".decl r(a: number)", ".input r", "- -3", "p(\"\") :- q(1), x = 1.", ".output r"}
	read := 0
	for range 100000 {
		var b strings.Builder
		for range 1 + rng.Intn(9) {
			b.WriteString(pieces[rng.Intn(len(pieces))] + " ")
		}
		p, line, e := dread.Parse(lexed(t, b.String()))
		if e != api.OK {
			if !isNothing(p) || line < 0 || line > 1 || e != api.ErrParse {
				t.Fatalf("%q: %v, %d, %d", b.String(), p, line, e)
			}
			continue
		}
		read++
		s, wrong := dtree.Show(p)
		again, _, _ := dread.Parse(lexed(t, s))
		if line != 0 || wrong != api.OK || !dtree.Right(p) {
			t.Fatalf("%q: %v, %d", b.String(), p, line)
		}
		if len(p.Decls) < 2 && !dtree.Same(p, again) {
			t.Fatalf("%q: %v, %v", b.String(), p, again)
		}
	}
	if read < 500 {
		t.Errorf("%d read", read)
	}
}
