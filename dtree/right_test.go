package dtree_test

import (
	"fmt"
	"math"
	"reflect"
	"regexp"
	"strings"
	"testing"

	"sorites/api"
	"sorites/dtree"
)

var anything = api.Term{Op: api.OAny}

func variable(s string) api.Term { return api.Term{Op: api.OVar, S: s} }
func number(n int64) api.Term    { return api.Term{Op: api.OInt, N: n} }
func symbol(s string) api.Term   { return api.Term{Op: api.OSym, S: s} }

func two(op int, a, b api.Term) api.Term { return api.Term{Op: op, L: []api.Term{a, b}} }

func atom(rel string, l ...api.Term) api.Atom { return api.Atom{Rel: rel, L: l} }

func lit(op int, rel string, l ...api.Term) api.Lit { return api.Lit{Op: op, A: atom(rel, l...)} }

func held(op int, x, y api.Term) api.Lit { return api.Lit{Op: op, X: x, Y: y} }

func fold(op int, x, y api.Term, a api.Atom) api.Lit { return api.Lit{Op: op, X: x, Y: y, A: a} }

func rule(head api.Atom, body ...api.Lit) api.Rule { return api.Rule{Head: head, Body: body} }

// copied is new memory all through, what is empty nil, lines 0.
func copied(p api.Prog) api.Prog {
	var out api.Prog
	for _, d := range p.Decls {
		d.Names, d.Types, d.Line = append([]string(nil), d.Names...), append([]int(nil), d.Types...), 0
		out.Decls = append(out.Decls, d)
	}
	for _, r := range p.Rules {
		c := api.Rule{Head: copiedAtom(r.Head)}
		for _, l := range r.Body {
			c.Body = append(c.Body, api.Lit{Op: l.Op, A: copiedAtom(l.A), X: copiedTerm(l.X), Y: copiedTerm(l.Y)})
		}
		out.Rules = append(out.Rules, c)
	}
	return out
}

func copiedAtom(a api.Atom) api.Atom {
	return api.Atom{Rel: a.Rel, L: copiedTerm(api.Term{L: a.L}).L}
}

func copiedTerm(t api.Term) api.Term {
	var l []api.Term
	for _, part := range t.L {
		l = append(l, copiedTerm(part))
	}
	t.L = l
	return t
}

// checkProg holds Right and Show against a text: if that is empty, the
// program, which then isn't the empty one, is to be wrong.
func checkProg(t *testing.T, p api.Prog, want string) {
	t.Helper()
	right, wantErr := true, api.OK
	if want == "" {
		right, wantErr = false, api.ErrTree
	}
	if dtree.Right(p) != right {
		t.Errorf("Right(%s) = %v", brief(p), !right)
	}
	if s, e := dtree.Show(p); s != want || e != wantErr {
		t.Errorf("Show(%s) = %.300q, %d, not %.300q, %d", brief(p), s, e, want, wantErr)
	}
}

// checkRule does so with a rule, by itself and within a program.
func checkRule(t *testing.T, r api.Rule, want string) {
	t.Helper()
	right, wantErr, inProg := true, api.OK, want+"\n"
	if want == "" {
		right, wantErr, inProg = false, api.ErrTree, ""
	}
	if dtree.RightRule(r) != right {
		t.Errorf("RightRule(%s) = %v", brief(r), !right)
	}
	if s, e := dtree.ShowRule(r); s != want || e != wantErr {
		t.Errorf("ShowRule(%s) = %.300q, %d, not %.300q, %d", brief(r), s, e, want, wantErr)
	}
	checkProg(t, api.Prog{Rules: []api.Rule{r}}, inProg)
	if right {
		inProg = "a(1).\n" + inProg + "a(1).\n"
	}
	fact := rule(atom("a", number(1)))
	checkProg(t, api.Prog{Rules: []api.Rule{fact, r, fact}}, inProg)
}

func brief(tree any) string {
	return fmt.Sprintf("%.300s", fmt.Sprint(tree))
}

// place is one of a rule where a term may stand, and the texts around it.
type place struct {
	ahead, behind string
	rule          func(api.Term) api.Rule
}

func places() []place {
	head, x := atom("p", number(1)), variable("x")
	in := func(ahead, behind string, l func(api.Term) api.Lit) place {
		return place{"p(1) :- " + ahead, behind + ".", func(t api.Term) api.Rule { return rule(head, l(t)) }}
	}
	return []place{
		in("q(", ")", func(t api.Term) api.Lit { return lit(api.LAtom, "q", t) }),
		in("q(x, ", ", 2)", func(t api.Term) api.Lit { return lit(api.LAtom, "q", x, t, number(2)) }),
		in("!q(_, ", ")", func(t api.Term) api.Lit { return lit(api.LNot, "q", anything, t) }),
		in("x = count : { q(", ") }", func(t api.Term) api.Lit { return fold(api.LCount, x, api.Term{}, atom("q", t)) }),
		in("x = sum x : { q(", ", x) }", func(t api.Term) api.Lit { return fold(api.LSum, x, x, atom("q", t, x)) }),
		in("x = min x : { q(", ") }", func(t api.Term) api.Lit { return fold(api.LMin, x, x, atom("q", t)) }),
		in("x = max x : { q(", ") }", func(t api.Term) api.Lit { return fold(api.LMax, x, x, atom("q", t)) }),
	}
}

func heldPlaces() []place {
	var out []place
	for op, sign := range map[int]string{api.LEq: "=", api.LNe: "!=", api.LLt: "<", api.LLe: "<="} {
		out = append(out, place{"p(1) :- ", " " + sign + " x.", func(t api.Term) api.Rule {
			return rule(atom("p", number(1)), held(op, t, variable("x")))
		}}, place{"p(1) :- 7 " + sign + " ", ".", func(t api.Term) api.Rule {
			return rule(atom("p", number(1)), held(op, number(7), t))
		}})
	}
	return out
}

// rightTerms are terms and their texts.
func rightTerms() map[string]api.Term {
	x, y, one := variable("x"), variable("Y_2"), number(1)
	return map[string]api.Term{
		"x": x, "__": variable("__"), "count": variable("count"), strings.Repeat("a", 40): variable(strings.Repeat("a", 40)),
		"0": number(0), "-1": number(-1), "1200": number(1200), `"x"`: symbol("x"), `""`: symbol(""), `"_"`: symbol("_"),
		"9223372036854775807": number(math.MaxInt64), "-9223372036854775808": number(math.MinInt64),
		`"a\n\"\\\x00\xff, (b)."`: symbol("a\n\"\\\x00\xff, (b)."),
		"(x + 1)":                 two(api.OAdd, x, one), "(1 + x)": two(api.OAdd, one, x), "(x - -1)": two(api.OSub, x, number(-1)), "(-5 * Y_2)": two(api.OMul, number(-5), y),
		"((x - Y_2) - 1)":             two(api.OSub, two(api.OSub, x, y), one),
		"(x - (Y_2 - 1))":             two(api.OSub, x, two(api.OSub, y, one)),
		"((1 * 1) + ((x - x) * 1))":   two(api.OAdd, two(api.OMul, one, one), two(api.OMul, two(api.OSub, x, x), one)),
		"(((1 + 1) + 1) - (1 + x))":   two(api.OSub, two(api.OAdd, two(api.OAdd, one, one), one), two(api.OAdd, one, x)),
		"((x * x) * (Y_2 * (1 + 1)))": two(api.OMul, two(api.OMul, x, x), two(api.OMul, y, two(api.OAdd, one, one))),
	}
}

func wrongTerms() []api.Term {
	x, one := variable("x"), number(1)
	some := []api.Term{x, one}
	wrong := []api.Term{
		{}, {S: "x"}, {N: 1}, {L: some}, {Op: -1}, {Op: 8}, {Op: 8, L: some}, {Op: math.MinInt64, S: "x"}, {Op: math.MaxInt64},
		variable(""), variable("_"), variable("1"), variable("a b"), variable("a\n"), variable("\u00e4"), variable(strings.Repeat("a", 41)),
		{Op: api.OVar, S: "x", N: 1}, {Op: api.OVar, S: "x", N: -1}, {Op: api.OVar, S: "x", L: some}, {Op: api.OVar, S: "x", L: make([]api.Term, 1)},
		{Op: api.OInt, N: 1, S: "1"}, {Op: api.OInt, S: "x"}, {Op: api.OInt, L: some}, {Op: api.OInt, L: make([]api.Term, 1)},
		{Op: api.OSym, S: "x", N: 1}, {Op: api.OSym, N: 1}, {Op: api.OSym, S: "x", L: some}, {Op: api.OSym, L: make([]api.Term, 1)},
		{Op: api.OAny, S: "_"}, {Op: api.OAny, N: 1}, {Op: api.OAny, L: some}, {Op: api.OAny, L: make([]api.Term, 1)},
	}
	for _, op := range []int{api.OAdd, api.OSub, api.OMul} {
		wrong = append(wrong, api.Term{Op: op}, api.Term{Op: op, L: some[:1]}, api.Term{Op: op, L: []api.Term{x, one, x}},
			api.Term{Op: op, L: some, S: "x"}, api.Term{Op: op, L: some, N: 1}, api.Term{Op: op, S: "+"}, api.Term{Op: op, N: 2})
		for _, part := range []api.Term{symbol("x"), symbol(""), anything, {}, variable("_"), {Op: 8, L: some}, {Op: op, L: some[:1]}, two(op, x, anything)} {
			wrong = append(wrong, two(op, part, x), two(op, x, part), two(api.OAdd, one, two(op, part, x)), two(op, two(api.OSub, one, part), x))
		}
	}
	return wrong
}

// P3.1
func TestTermsThatAreRight(t *testing.T) {
	for _, p := range append(places(), heldPlaces()...) {
		for want, term := range rightTerms() {
			checkRule(t, p.rule(term), p.ahead+want+p.behind)
		}
		empty := api.Term{Op: api.OInt, L: []api.Term{}}
		checkRule(t, p.rule(empty), p.ahead+"0"+p.behind)
	}
}

// P3.1
func TestTermsThatAreWrong(t *testing.T) {
	for _, p := range append(places(), heldPlaces()...) {
		for _, term := range wrongTerms() {
			checkRule(t, p.rule(term), "")
		}
	}
}

// P3.1
func TestTheNamelessTermStandsInAtomsAlone(t *testing.T) {
	for _, p := range places() {
		checkRule(t, p.rule(anything), p.ahead+"_"+p.behind)
	}
	for _, p := range heldPlaces() {
		checkRule(t, p.rule(anything), "")
	}
}

// P3.1
func TestTermsHaveAtMostTwentyLevels(t *testing.T) {
	for _, p := range append(places(), heldPlaces()...) {
		left, right := variable("x"), number(1)
		leftText, rightText := "x", "1"
		for high := 2; high <= 23; high++ {
			left, leftText = two(api.OAdd, left, number(1)), "("+leftText+" + 1)"
			right, rightText = two(api.OMul, variable("x"), right), "(x * "+rightText+")"
			wantLeft, wantRight := p.ahead+leftText+p.behind, p.ahead+rightText+p.behind
			if high > 20 {
				wantLeft, wantRight = "", ""
			}
			checkRule(t, p.rule(left), wantLeft)
			checkRule(t, p.rule(right), wantRight)
		}
	}
}

// P3.1, R1, R5
func TestTermsOfVeryManyLevelsAreWrong(t *testing.T) {
	deep, doubled := number(1), number(1)
	for range 1<<16 - 1 {
		deep = two(api.OAdd, variable("x"), deep)
		doubled = two(api.OAdd, doubled, doubled)
	}
	ring := []api.Term{{Op: api.OAdd}, {Op: api.OMul}}
	ring[0].L, ring[1].L = ring, ring
	for _, p := range append(places(), heldPlaces()...) {
		checkWrong(t, p.rule(deep))
		checkWrong(t, p.rule(doubled))
		checkWrong(t, p.rule(ring[0]))
	}
}

// checkWrong prints nothing of a rule that may have no end.
func checkWrong(t *testing.T, r api.Rule) {
	t.Helper()
	p := api.Prog{Rules: []api.Rule{r}}
	s, e := dtree.ShowRule(r)
	all, eAll := dtree.Show(p)
	if dtree.RightRule(r) || dtree.Right(p) || s != "" || all != "" || e != api.ErrTree || eAll != api.ErrTree {
		t.Errorf("%q, %d; %q, %d", s, e, all, eAll)
	}
}

// P3.1
func TestALargeTerm(t *testing.T) {
	full, want := variable("x"), "x"
	for range 19 {
		full = two(api.OAdd, full, full)
		want = "(" + want + " + " + want + ")"
	}
	r := rule(atom("p", number(1)), held(api.LEq, full, number(1)))
	if s, e := dtree.ShowRule(r); s != "p(1) :- "+want+" = 1." || e != api.OK {
		t.Errorf("%d bytes, %d", len(s), e)
	}
	checkWrong(t, rule(atom("p", number(1)), held(api.LEq, two(api.OAdd, full, full), number(1))))
}

// P3.1
func TestHeads(t *testing.T) {
	x := variable("x")
	body, behind := lit(api.LAtom, "q", x), " :- q(x)."
	for want, term := range rightTerms() {
		a, b := atom("p", term), atom("p", number(1), term, symbol("s"))
		switch term.Op {
		case api.OAdd, api.OSub, api.OMul:
			checkRule(t, rule(a, body), "")
			checkRule(t, rule(a), "")
			checkRule(t, rule(b), "")
		case api.OVar:
			checkRule(t, rule(a, body), "p("+want+")"+behind)
			checkRule(t, rule(b, body), "p(1, "+want+`, "s")`+behind)
			checkRule(t, rule(a), "")
			checkRule(t, rule(b), "")
		default:
			checkRule(t, rule(a, body), "p("+want+")"+behind)
			checkRule(t, rule(a), "p("+want+").")
			checkRule(t, rule(b), "p(1, "+want+`, "s").`)
		}
	}
	for _, term := range append(wrongTerms(), anything) {
		checkRule(t, rule(atom("p", term)), "")
		checkRule(t, rule(atom("p", term), body), "")
		checkRule(t, rule(atom("p", number(1), term), body), "")
	}
	checkRule(t, api.Rule{Head: atom("p", x), Body: []api.Lit{}}, "")
	checkRule(t, api.Rule{Head: atom("p", number(3)), Body: []api.Lit{}, Line: -9}, "p(3).")
	checkRule(t, api.Rule{}, "")
}

// P3.1
func TestAtoms(t *testing.T) {
	one := number(1)
	uses := []func(api.Atom) api.Rule{
		func(a api.Atom) api.Rule { return rule(a) },
		func(a api.Atom) api.Rule { return rule(a, held(api.LEq, one, one)) },
		func(a api.Atom) api.Rule { return rule(atom("p", one), api.Lit{Op: api.LAtom, A: a}) },
		func(a api.Atom) api.Rule { return rule(atom("p", one), api.Lit{Op: api.LNot, A: a}) },
		func(a api.Atom) api.Rule { return rule(atom("p", one), fold(api.LCount, one, api.Term{}, a)) },
		func(a api.Atom) api.Rule {
			return rule(atom("p", one), fold(api.LSum, variable("n"), variable("v"), a))
		},
	}
	around := [][2]string{{"", "."}, {"", " :- 1 = 1."}, {"p(1) :- ", "."}, {"p(1) :- !", "."}, {"p(1) :- 1 = count : { ", " }."}, {"p(1) :- n = sum v : { ", " }."}}
	for i, use := range uses {
		for n := range 12 {
			want := ""
			if n >= 1 && n <= 8 {
				want = around[i][0] + "q(" + strings.TrimSuffix(strings.Repeat("1, ", n), ", ") + ")" + around[i][1]
			}
			l := make([]api.Term, n)
			for k := range l {
				l[k] = one
			}
			checkRule(t, use(api.Atom{Rel: "q", L: l}), want)
		}
		for _, name := range []string{"", "_", "1", "a.b", "a b", "\u00e4", strings.Repeat("q", 41), "!q", "q("} {
			checkRule(t, use(atom(name, one)), "")
		}
		for _, name := range []string{"q", "__", "Q9", "_q", "count", "decl", strings.Repeat("q", 40)} {
			checkRule(t, use(atom(name, one)), around[i][0]+name+"(1)"+around[i][1])
		}
	}
}

// litForms are what parts of bodies are made of, by what they are: e is
// empty, r right, v a variable, i a number, s a symbol, a nameless, + a sum;
// all else is wrong.
func litForms() map[int]*regexp.Regexp {
	forms := map[int]*regexp.Regexp{}
	for form, ops := range map[string][]int{
		`^ree$`:           {api.LAtom, api.LNot},
		`^e[vis+][vis+]$`: {api.LEq, api.LNe, api.LLt, api.LLe},
		`^r[vi]e$`:        {api.LCount},
		`^r[vi]v$`:        {api.LSum, api.LMin, api.LMax},
	} {
		for _, op := range ops {
			forms[op] = regexp.MustCompile(form)
		}
	}
	return forms
}

// P3.1
func TestPartsOfBodies(t *testing.T) {
	x := variable("x")
	atoms := map[string]api.Atom{"e": {}, "E": {Rel: "q"}, "r": atom("q", x, anything), "w": atom("_", x), "W": atom("", x), "u": atom("q", variable("_"))}
	terms := map[string]api.Term{
		"e": {}, "v": x, "i": number(3), "s": symbol("x"), "a": anything, "+": two(api.OAdd, x, number(1)),
		"w": variable("_"), "W": {S: "x"}, "N": {N: 1}, "L": {L: []api.Term{x}}, "V": {Op: api.OVar, S: "x", N: 1},
		"I": {Op: api.OInt, S: "x"}, "u": two(api.OAdd, x, anything), "o": {Op: 9},
	}
	forms := litForms()
	for op := -2; op <= 13; op++ {
		for a, aAtom := range atoms {
			for x, xTerm := range terms {
				for y, yTerm := range terms {
					want := forms[op] != nil && forms[op].MatchString(a+x+y)
					l := api.Lit{Op: op, A: aAtom, X: xTerm, Y: yTerm}
					if got := dtree.RightRule(rule(atom("p", number(1)), l)); got != want {
						t.Errorf("%d %s%s%s: %v", op, a, x, y, got)
					}
					if got := dtree.RightRule(rule(atom("p", number(1)), lit(api.LAtom, "q", xTerm), l)); got && !want {
						t.Errorf("%d %s%s%s as the second part", op, a, x, y)
					}
				}
			}
		}
	}
}

// P3.1
func TestRulesHaveAtMostTwentyParts(t *testing.T) {
	x := variable("x")
	parts := []api.Lit{lit(api.LAtom, "q", x), lit(api.LNot, "q", x), held(api.LLt, x, x), fold(api.LMin, x, x, atom("q", x))}
	texts := []string{"q(x)", "!q(x)", "x < x", "x = min x : { q(x) }"}
	for n := 1; n < 50; n++ {
		var body []api.Lit
		var said []string
		for i := range n {
			body, said = append(body, parts[i%4]), append(said, texts[i%4])
		}
		want := "p(x) :- " + strings.Join(said, ", ") + "."
		if n > 20 {
			want = ""
		}
		checkRule(t, rule(atom("p", x), body...), want)
	}
	checkWrong(t, rule(atom("p", x), make([]api.Lit, 1<<16)...))
}

// P3.1, R3
func TestWhatIsHandedInIsLeftAsItIs(t *testing.T) {
	p := manyThings()
	for i := range p.Rules {
		r := &p.Rules[i]
		spare := append(append([]api.Lit(nil), r.Body...), lit(api.LAtom, "spare", anything))
		r.Body = spare[:len(r.Body)]
	}
	was := copied(p)
	dtree.Right(p)
	dtree.Show(p)
	dtree.Same(p, p)
	for _, r := range p.Rules {
		dtree.RightRule(r)
		dtree.ShowRule(r)
		if spare := r.Body[:len(r.Body)+1]; !reflect.DeepEqual(spare[len(r.Body)], lit(api.LAtom, "spare", anything)) {
			t.Errorf("spare room: %v", spare)
		}
	}
	if !reflect.DeepEqual(copied(p), was) {
		t.Errorf("%v became %v", was, p)
	}
}
