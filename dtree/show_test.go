package dtree_test

import (
	"slices"
	"strings"
	"testing"

	"sorites/api"
	"sorites/dtree"
)

// manyThings is a program with one of each thing that programs have.
func manyThings() api.Prog {
	x, y, n := variable("x"), variable("y"), variable("n")
	return api.Prog{
		Decls: []api.Decl{
			{Rel: "e", Names: []string{"a", "b"}, Types: []int{api.TNum, api.TSym}, In: true, Line: 1},
			{Rel: "f", Names: []string{"a"}, Types: []int{api.TNum}, Out: true, Line: 3},
			{Rel: "g", Names: []string{"x", "y", "x"}, Types: []int{api.TSym, api.TSym, api.TNum}, In: true, Out: true},
			{Rel: "h", Names: []string{"_0"}, Types: []int{api.TSym}},
		},
		Rules: []api.Rule{
			rule(atom("e", number(-3), symbol("s, \"t\""))),
			rule(atom("f", x), lit(api.LAtom, "e", x, anything), lit(api.LNot, "f", two(api.OMul, x, number(2)))),
			rule(atom("f", y), lit(api.LAtom, "f", x), held(api.LEq, y, two(api.OAdd, x, number(1))), held(api.LNe, x, number(7))),
			rule(atom("h", y), lit(api.LAtom, "e", x, y), held(api.LLt, x, number(0)), held(api.LLe, symbol(""), y)),
			rule(atom("f", n), fold(api.LCount, n, api.Term{}, atom("e", anything, anything)), fold(api.LSum, number(1), x, atom("f", x))),
			{Head: atom("f", number(0)), Body: []api.Lit{fold(api.LMin, n, x, atom("e", x, symbol("a"))), fold(api.LMax, n, y, atom("e", y, anything))}, Line: 12},
		},
	}
}

const manyThingsText = `.decl e(a: number, b: symbol)
.input e
.decl f(a: number)
.output f
.decl g(x: symbol, y: symbol, x: number)
.input g
.output g
.decl h(_0: symbol)
e(-3, "s, \"t\"").
f(x) :- e(x, _), !f((x * 2)).
f(y) :- f(x), y = (x + 1), x != 7.
h(y) :- e(x, y), x < 0, "" <= y.
f(n) :- n = count : { e(_, _) }, 1 = sum x : { f(x) }.
f(0) :- n = min x : { e(x, "a") }, n = max y : { e(y, _) }.
`

// P3.1
func TestProgramsHaveTheirTexts(t *testing.T) {
	checkProg(t, manyThings(), manyThingsText)
	one := api.Decl{Rel: "p", Names: []string{"x"}, Types: []int{api.TNum}, In: true}
	checkProg(t, api.Prog{Decls: []api.Decl{one}, Rules: []api.Rule{rule(atom("p", number(1)))}}, ".decl p(x: number)\n.input p\np(1).\n")
	checkProg(t, api.Prog{Decls: []api.Decl{one, one}}, strings.Repeat(".decl p(x: number)\n.input p\n", 2))
	for i, r := range manyThings().Rules {
		checkRule(t, r, strings.Split(manyThingsText, "\n")[8+i])
	}
}

// P3.1, R3
func TestTheEmptyProgramIsRight(t *testing.T) {
	for _, p := range []api.Prog{{}, {Decls: []api.Decl{}, Rules: []api.Rule{}}} {
		if s, e := dtree.Show(p); s != "" || e != api.OK || !dtree.Right(p) {
			t.Errorf("%q, %d", s, e)
		}
	}
}

// P3.1
func TestRelations(t *testing.T) {
	check := func(d api.Decl, want string) {
		t.Helper()
		good := api.Decl{Rel: "a", Names: []string{"x"}, Types: []int{1}}
		checkProg(t, api.Prog{Decls: []api.Decl{d}}, want)
		if want != "" {
			want = ".decl a(x: number)\n" + want + ".decl a(x: number)\n"
		}
		checkProg(t, api.Prog{Decls: []api.Decl{good, d, good}}, want)
	}
	name, long := []string{"x"}, strings.Repeat("n", 40)
	for _, rel := range []string{"p", "_p", "__", "P0", "decl", long} {
		check(api.Decl{Rel: rel, Names: name, Types: []int{2}}, ".decl "+rel+"(x: symbol)\n")
		check(api.Decl{Rel: "p", Names: []string{"x", rel}, Types: []int{2, 1}}, ".decl p(x: symbol, "+rel+": number)\n")
	}
	for _, rel := range []string{"", "_", "0", "a b", "\u00e4", "p\n", long + "n"} {
		check(api.Decl{Rel: rel, Names: name, Types: []int{2}, In: true}, "")
		check(api.Decl{Rel: "p", Names: []string{rel}, Types: []int{2}}, "")
		check(api.Decl{Rel: "p", Names: []string{"x", rel}, Types: []int{2, 2}, Out: true}, "")
	}
	for n := range 20 {
		for k := range 20 {
			d, want := api.Decl{Rel: "p", Names: slices.Repeat(name, n), Types: slices.Repeat([]int{2}, k), Out: true}, ""
			if n == k && n >= 1 && n <= 8 {
				want = ".decl p(" + strings.TrimSuffix(strings.Repeat("x: symbol, ", n), ", ") + ")\n.output p\n"
			}
			check(d, want)
		}
	}
	for _, kind := range []int{-1, 0, 3, 4, 1 << 32, 1<<32 + 1} {
		check(api.Decl{Rel: "p", Names: name, Types: []int{kind}}, "")
		check(api.Decl{Rel: "p", Names: []string{"x", "y"}, Types: []int{1, kind}}, "")
	}
	check(api.Decl{Rel: "p", Line: 1}, "")
	check(api.Decl{}, "")
}

// P3.1
func TestProgramsHaveAtMostSoManyRelationsAndRules(t *testing.T) {
	d := api.Decl{Rel: "p", Names: []string{"x"}, Types: []int{1}}
	r := rule(atom("p", number(1)))
	for _, decls := range []int{0, 1, 59, 60, 61, 200, 1000} {
		for _, rules := range []int{0, 1, 60, 61, 199, 200, 201, 1000} {
			want := strings.Repeat(".decl p(x: number)\n", decls) + strings.Repeat("p(1).\n", rules)
			if decls > 60 || rules > 200 {
				want = ""
			}
			if decls+rules > 0 {
				checkProg(t, api.Prog{Decls: slices.Repeat([]api.Decl{d}, decls), Rules: slices.Repeat([]api.Rule{r}, rules)}, want)
			}
		}
	}
}

// P3.1
func TestOneWrongThingMakesAProgramWrong(t *testing.T) {
	for i := range manyThings().Decls {
		p := manyThings()
		p.Decls[i].Rel = "_"
		checkProg(t, p, "")
	}
	for i := range manyThings().Rules {
		p := manyThings()
		p.Rules[i].Head.L[0] = anything
		checkProg(t, p, "")
	}
}

// P3.3
func TestUnlikeRulesHaveUnlikeTexts(t *testing.T) {
	x, y, one := variable("x"), variable("y"), number(1)
	plain := []api.Term{x, y, one, number(-1), number(11), symbol("x"), symbol("1"), symbol(""), symbol("x, y"), symbol("x\", \"y"), symbol("\\"), symbol("\n")}
	var sums []api.Term
	for _, op := range []int{api.OAdd, api.OSub, api.OMul} {
		for _, a := range []api.Term{x, y, one, number(-1)} {
			for _, b := range []api.Term{x, one, number(-1)} {
				sums = append(sums, two(op, a, b), two(api.OSub, two(op, a, b), x), two(api.OSub, x, two(op, a, b)), two(api.OAdd, x, two(op, a, b)))
			}
		}
	}
	for i, a := range sums {
		sums = append(sums, two(api.OMul, a, sums[len(sums)-1-i]))
	}
	var parts []api.Lit
	for _, a := range append(slices.Concat(plain, sums), anything) {
		parts = append(parts, lit(api.LAtom, "q", a), lit(api.LNot, "q", a), lit(api.LAtom, "q", a, x), lit(api.LAtom, "x", a),
			fold(api.LCount, x, api.Term{}, atom("q", a)), fold(api.LCount, one, api.Term{}, atom("q", a)), fold(api.LSum, x, x, atom("q", a)),
			fold(api.LSum, x, y, atom("q", a)), fold(api.LMin, x, y, atom("q", a)), fold(api.LMax, x, y, atom("q", a)), fold(api.LMax, one, y, atom("q", a)))
	}
	for _, op := range []int{api.LEq, api.LNe, api.LLt, api.LLe} {
		for _, a := range append(plain, variable("count"), variable("sum")) {
			for _, b := range append(slices.Concat(plain, sums), variable("count"), variable("sum")) {
				parts = append(parts, held(op, a, b), held(op, b, a))
			}
		}
	}
	bodies := [][]api.Lit{nil}
	for i, l := range parts {
		next := parts[(i+1)%len(parts)]
		bodies = append(bodies, []api.Lit{l}, []api.Lit{l, l}, []api.Lit{l, next}, []api.Lit{next, l}, []api.Lit{l, l, next})
	}
	seen := map[string]api.Prog{}
	for _, body := range bodies {
		for _, head := range []api.Atom{atom("p", one), atom("p", symbol("1")), atom("q", one), atom("p", one, one)} {
			checkUnlike(t, seen, api.Prog{Rules: []api.Rule{rule(head, body...)}})
		}
	}
	for _, a := range plain[2:] {
		for _, b := range plain[2:] {
			checkUnlike(t, seen, api.Prog{Rules: []api.Rule{rule(atom("p", a, b))}})
			checkUnlike(t, seen, api.Prog{Rules: []api.Rule{rule(atom("p", a)), rule(atom("p", b))}})
		}
	}
	if len(seen) < 20000 {
		t.Errorf("%d texts", len(seen))
	}
}

// checkUnlike holds a right program against those of the same text.
func checkUnlike(t *testing.T, seen map[string]api.Prog, p api.Prog) {
	t.Helper()
	s, e := dtree.Show(p)
	if e != api.OK {
		t.Fatalf("%v: %d", p, e)
	}
	if other, ok := seen[s]; ok && !dtree.Same(p, other) {
		t.Fatalf("%q is the text of %v and of %v", s, p, other)
	}
	seen[s] = p
}

// P3.3
func TestUnlikeRelationsHaveUnlikeTexts(t *testing.T) {
	var decls []api.Decl
	columns := []api.Decl{
		{Names: []string{"x"}, Types: []int{1}}, {Names: []string{"x"}, Types: []int{2}}, {Names: []string{"y"}, Types: []int{1}},
		{Names: []string{"x", "y"}, Types: []int{1, 2}}, {Names: []string{"x", "y"}, Types: []int{2, 1}}, {Names: []string{"y", "x"}, Types: []int{1, 2}},
		{Names: []string{"number"}, Types: []int{2}}, {Names: []string{"number", "symbol"}, Types: []int{1, 1}},
	}
	for _, rel := range []string{"p", "q", "number"} {
		for marks := range 4 {
			for _, d := range columns {
				d.Rel, d.In, d.Out = rel, marks&1 > 0, marks&2 > 0
				decls = append(decls, d)
			}
		}
	}
	seen, count := map[string]api.Prog{}, 1
	checkUnlike(t, seen, api.Prog{})
	for _, a := range decls {
		checkUnlike(t, seen, api.Prog{Decls: []api.Decl{a}})
		count++
		for _, b := range decls {
			checkUnlike(t, seen, api.Prog{Decls: []api.Decl{a, b}})
			checkUnlike(t, seen, api.Prog{Decls: []api.Decl{a, b}, Rules: []api.Rule{rule(atom("p", number(1)))}})
			count += 2
		}
	}
	if len(seen) != count {
		t.Errorf("%d texts of %d programs", len(seen), count)
	}
}
