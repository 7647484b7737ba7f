package model_test

import (
	"math"
	"strconv"
	"strings"
	"testing"

	"sorites/api"
	"sorites/model"
	"sorites/rel"
)

// What is reckoned here has edges e, and p, q, r, each of its own type.
const layers = `.decl e(a: number, b: number)
.decl p(a: number, b: number)
.decl q(a: number)
.decl r(a: symbol)
`

// P9.2
func TestEval(t *testing.T) {
	const edges = "1 2 | 2 3"
	for _, c := range []struct {
		rules string
		in    [][][]api.Val
		want  [][][]api.Val
	}{
		{"", all("", "", "", ""), all("", "", "", "")},
		{"", all(edges, "", "5", "a | b"), all(edges, "", "5", "a | b")},
		{"q(1). q(1). q(0). r(\"z\").", all("", "", "5", "a"), all("", "", "0 | 1 | 5", "a | z")},
		{"q(x) :- e(x, _).", all(edges, "", "2 | 7", ""), all(edges, "", "1 | 2 | 7", "")},

		// layer by layer, whatever the rules' order
		{"q(x) :- p(x, 3). p(y, x) :- e(x, y).", all("1 2 | 3 5", "", "", ""), all("1 2 | 3 5", "2 1 | 5 3", "5", "")},
		{"q(c) :- c = count : { p(_, _) }. p(x, x) :- e(x, _). p(7, 7).", all(edges, "", "", ""), all(edges, "1 1 | 2 2 | 7 7", "3", "")},
		{"q(x) :- e(x, _), !p(x, _). p(x, y) :- e(y, x).", all(edges, "", "", ""), all(edges, "2 1 | 3 2", "1", "")},
		{"p(n, 0) :- n = sum x : { e(x, _) }.", all(edges, "", "", ""), all(edges, "3 0", "", "")},
		{"p(x, n) :- q(x), n = max y : { e(x, y) }. q(x) :- e(x, _). e(5, 9). e(5, 8).", all("", "", "", ""), all("5 8 | 5 9", "5 9", "5", "")},
		{"r(x) :- x = \"b\". r(\"a\") :- r(\"b\").", all("", "", "", ""), all("", "", "", "a | b")},
		{"e(x, y) :- q(x), q(y), x < y. q(x) :- p(x, _). q(y) :- p(_, y). p(1, 2). p(3, 3).", all("", "", "", ""), all("1 2 | 1 3 | 2 3", "1 2 | 3 3", "1 | 2 | 3", "")},

		// what comes of what came
		{"p(x, y) :- e(x, y). p(x, z) :- p(x, y), e(y, z).", all(edges, "", "", ""), all(edges, "1 2 | 1 3 | 2 3", "", "")},
		{"p(x, z) :- p(x, y), e(y, z). p(x, y) :- e(x, y).", all("1 2 | 2 3 | 3 1", "", "", ""), all("1 2 | 2 3 | 3 1", "1 1 | 1 2 | 1 3 | 2 1 | 2 2 | 2 3 | 3 1 | 3 2 | 3 3", "", "")},
		{"p(x, z) :- e(x, y), p(y, z). p(x, y) :- e(x, y).", all("1 2 | 2 3 | 3 4 | 4 5", "", "", ""), all("1 2 | 2 3 | 3 4 | 4 5", "1 2 | 1 3 | 1 4 | 1 5 | 2 3 | 2 4 | 2 5 | 3 4 | 3 5 | 4 5", "", "")},
		{"p(x, z) :- p(x, y), p(y, z).", all("", "1 2 | 2 3 | 3 4 | 4 5", "", ""), all("", "1 2 | 1 3 | 1 4 | 1 5 | 2 3 | 2 4 | 2 5 | 3 4 | 3 5 | 4 5", "", "")},
		{"p(y, x) :- p(x, y).", all("", "1 2 | 5 5", "", ""), all("", "1 2 | 2 1 | 5 5", "", "")},
		{"p(x, z) :- p(x, y), e(y, z).", all(edges, "0 1 | 7 8", "", ""), all(edges, "0 1 | 0 2 | 0 3 | 7 8", "", "")},
		{"q(y) :- q(x), e(x, y). q(1).", all("1 2 | 2 3 | 4 5", "", "", ""), all("1 2 | 2 3 | 4 5", "", "1 | 2 | 3", "")},
		{"q(y) :- q(x), e(x, y), !p(y, y). q(1). p(3, 3).", all("1 2 | 2 3 | 3 4", "", "", ""), all("1 2 | 2 3 | 3 4", "3 3", "1 | 2", "")},
		{"q(y) :- q(x), e(x, y), x + y < 6. q(1).", all("1 2 | 2 2 | 2 3 | 3 4", "", "", ""), all("1 2 | 2 2 | 2 3 | 3 4", "", "1 | 2 | 3", "")},
		{"q(x) :- q(x), r(\"a\").", all("", "", "5", "a"), all("", "", "5", "a")},

		// of two that hang on each other
		{"p(x, y) :- e(x, y). p(x, x) :- q(x). q(y) :- p(_, y). q(x) :- p(x, _), r(_).", all(edges, "", "", ""), all(edges, "1 2 | 2 2 | 2 3 | 3 3", "2 | 3", "")},
		{"q(x) :- p(x, x). p(x, y) :- q(x), e(x, y). p(y, y) :- p(_, y).", all("1 2 | 2 3 | 5 1", "", "1", ""), all("1 2 | 2 3 | 5 1", "1 2 | 2 2 | 2 3 | 3 3", "1 | 2 | 3", "")},
	} {
		got, e := model.Eval(read(t, layers+c.rules), c.in, 100)
		if !allSame(got, c.want) || e != api.OK {
			t.Errorf("%s: %v, %d, not %v", c.rules, got, e, c.want)
		}
	}
}

// P9.2: new numbers are made once, where nothing hangs on itself.
func TestEvalMakesNewNumbers(t *testing.T) {
	p := read(t, layers+"q(y) :- e(x, _), y = x + 1. p(x, y) :- q(x), y = x * x. p(x, y) :- p(y, x).")
	if got, e := model.Eval(p, all("2 0 | 9223372036854775807 0", "", "", ""), 9); e != api.OK || !same(got[1], rows("-9223372036854775808 0 | 0 -9223372036854775808 | 3 9 | 9 3")) {
		t.Errorf("%v, %d", got, e)
	}
}

func TestEvalOfNothing(t *testing.T) {
	for _, in := range [][][][]api.Val{nil, {}} {
		if got, e := model.Eval(api.Prog{}, in, 1); len(got) != 0 || e != api.OK {
			t.Errorf("%v, %d", got, e)
		}
	}
}

// P9.2: the first error that the promise names is told.
func TestEvalOfWrongThings(t *testing.T) {
	const right = ".decl a(x: number)\na(x) :- a(x).\na(1).\n"
	limits := []int{0, -1, math.MinInt, api.MaxLimit + 1, math.MaxInt}
	for _, in := range [][][][]api.Val{all("1"), all("a"), nil} {
		for s, want := range map[string]api.Errno{
			right + ".decl a(y: number)":            api.ErrTwice,
			right + "b(1).":                         api.ErrNoRel,
			right + "a(1, 2).":                      api.ErrArity,
			right + "a(\"s\").":                     api.ErrType,
			right + "a(x) :- a(y).":                 api.ErrUnsafe,
			right + "a(x) :- a(x), !a(x).":          api.ErrStrat,
			right + "a(c) :- c = count : { a(_) }.": api.ErrStrat,
			right + "a(y) :- a(x), y = x + 1.":      api.ErrInvent,
		} {
			for _, limit := range append(limits, 1, api.MaxLimit) {
				if l, e := model.Eval(read(t, s), in, limit); l != nil || e != want {
					t.Errorf("%q %d: %v, %d", s, limit, l, e)
				}
			}
		}
		for _, limit := range limits {
			if l, e := model.Eval(read(t, right), in, limit); l != nil || e != api.ErrArg {
				t.Errorf("%d: %v, %d", limit, l, e)
			}
		}
	}
	for _, in := range [][][][]api.Val{nil, all("a"), all("1", "1"), all("2 | 1"), all("1 1"), all("3 | 2 | 1")} {
		for _, limit := range []int{1, api.MaxLimit} {
			if l, e := model.Eval(read(t, right), in, limit); l != nil || e != api.ErrFacts {
				t.Errorf("%v %d: %v, %d", in, limit, l, e)
			}
		}
	}
}

// P9.2: with as many rows as want there is room, with one less there is none.
func TestLimits(t *testing.T) {
	for rules, want := range map[string]int{
		"":                            5,
		"q(7).":                       5,
		"q(8).":                       6,
		"q(7). q(8). q(9). r(\"s\").": 8,
		"p(x, y) :- e(x, y). p(x, z) :- p(x, y), e(y, z).":     11,
		"p(x, y) :- e(x, y). p(x, z) :- p(x, y), p(y, z).":     11,
		"p(x, y) :- e(x, y), x < 2.":                           6,
		"e(x, y) :- e(y, x).":                                  8,
		"q(x) :- e(x, _). q(x) :- e(_, x). r(\"k\") :- q(1).":  10,
		"p(x, y) :- q(x), q(y).":                               6,
		"p(c, c) :- c = count : { e(_, _) }. q(c) :- p(c, _).": 7,
	} {
		p, in := read(t, layers+rules), all("1 2 | 2 3 | 3 4", "", "7", "a")
		got, e := model.Eval(p, in, want)
		n := 0
		for _, l := range got {
			n += len(l)
		}
		if n != want || e != api.OK {
			t.Errorf("%q: %d rows, %d, not %d", rules, n, e, want)
		}
		if more, e := model.Eval(p, in, api.MaxLimit); !allSame(more, got) || e != api.OK {
			t.Errorf("%q: with more room %v, %d", rules, more, e)
		}
		for limit := 1; limit < want; limit++ {
			if l, e := model.Eval(p, in, limit); l != nil || e != api.ErrLimit {
				t.Errorf("%q, %d: %v, %d", rules, limit, l, e)
			}
		}
	}
}

// chain has an edge from each number to the next one.
func chain(n int) [][]api.Val {
	var l [][]api.Val
	for k := range n {
		l = append(l, []api.Val{num(int64(k)), num(int64(k) + 1)})
	}
	return l
}

// square has an edge from each number to each.
func square(n int) [][]api.Val {
	var l [][]api.Val
	for k := range n * n {
		l = append(l, []api.Val{num(int64(k / n)), num(int64(k % n))})
	}
	return l
}

// R1: too many rows are told, though all of them would never be reckoned.
func TestFarTooManyRows(t *testing.T) {
	s := ".decl w(" + strings.TrimSuffix(strings.Repeat("a: number, ", 8), ", ") + ") .decl q(a: number) .decl u(a: number, b: number)\n"
	var vars, parts []string
	for k := range 8 {
		v := "v" + strconv.Itoa(k)
		vars, parts = append(vars, v), append(parts, "q("+v+")")
	}
	head := "w(" + strings.Join(vars, ", ") + ")"
	var q [][]api.Val
	for k := range 1000 {
		q = append(q, []api.Val{num(int64(k))})
	}
	for _, rule := range []string{
		head + " :- " + strings.Join(parts, ", ") + ".",
		"w(1, 1, 1, 1, 1, 1, 1, 1). " + head + " :- " + head + ". " + head + " :- " + strings.Join(parts, ", ") + ".",
		head + " :- " + strings.Join(parts, ", ") + ", v0 < v7, !u(v7, v0), c = count : { u(_, _) }, c < 9. u(x, x) :- q(x), x < 5.",
	} {
		if l, e := model.Eval(read(t, s+rule), [][][]api.Val{nil, q, nil}, 5000); l != nil || e != api.ErrLimit {
			t.Errorf("%s: %d, %d", rule, len(l), e)
		}
	}
}

// R1: a path of twenty edges is gone through over its places, not as often as
// there are such paths; so is what gives nothing that is named behind it.
func TestLongBodiesEnd(t *testing.T) {
	var path, walk []string
	for k := range api.MaxBody {
		path = append(path, "e(v"+strconv.Itoa(k)+", v"+strconv.Itoa(k+1)+")")
		walk = append(walk, "e(x"+strconv.Itoa(k)+", _)")
	}
	last := walk[len(walk)-1]
	for body, want := range map[string]string{
		"p(v0, v20) :- " + strings.Join(path, ", "):                                      "all",
		"p(v20, v0) :- " + strings.Join(path, ", "):                                      "all",
		"p(x19, 1) :- " + strings.Join(walk, ", "):                                       "ones",
		"p(x19, 1) :- " + last + ", " + strings.Join(walk[1:], ", "):                     "ones",
		"p(x, 1) :- " + strings.Join(copies("e(x, _)", 20), ", "):                        "ones",
		"p(x, 1) :- " + strings.Join(copies("e(_, _)", 19), ", ") + ", e(x, _)":          "ones",
		"p(x, 1) :- e(x, _), " + strings.Join(copies("e(_, x)", 18), ", ") + ", e(_, _)": "ones",
	} {
		got, e := model.Eval(read(t, layers+body+"."), [][][]api.Val{square(10), nil, nil, nil}, 1000)
		if e != api.OK {
			t.Fatalf("%s: %d", body, e)
		}
		wanted := square(10)
		if want == "ones" {
			wanted = nil
			for k := range 10 {
				wanted = append(wanted, []api.Val{num(int64(k)), num(1)})
			}
		}
		if !same(got[1], wanted) {
			t.Errorf("%s: %v", body, got[1])
		}
	}
}

func copies(s string, n int) []string {
	var l []string
	for range n {
		l = append(l, s)
	}
	return l
}

// P9.2: of a long chain, by rules of each shape.
func TestPathsOfALongChain(t *testing.T) {
	const n = 100
	var want [][]api.Val
	for a := range n {
		for b := a + 1; b <= n; b++ {
			want = append(want, []api.Val{num(int64(a)), num(int64(b))})
		}
	}
	for _, body := range []string{"p(x, y), e(y, z)", "e(x, y), p(y, z)", "p(x, y), p(y, z)", "p(y, z), p(x, y)", "p(x, y), p(y, z), p(x, y)"} {
		p := read(t, layers+"p(x, y) :- e(x, y). p(x, z) :- "+body+".")
		got, e := model.Eval(p, [][][]api.Val{chain(n), nil, nil, nil}, len(want)+n)
		if e != api.OK || !same(got[1], want) {
			t.Errorf("%s: %d, %d", body, len(got), e)
		}
	}
}

// P9.2: the most relations, each on the one ahead, and the most rules.
func TestTheMostRelationsAndRules(t *testing.T) {
	var s strings.Builder
	for k := range api.MaxDecls {
		s.WriteString(".decl r" + strconv.Itoa(k) + "(x: number)\n")
	}
	for k := api.MaxDecls - 1; k > 0; k-- {
		s.WriteString("r" + strconv.Itoa(k) + "(y) :- r" + strconv.Itoa(k-1) + "(x), y = x + 1.\n")
	}
	for k := range api.MaxRules - api.MaxDecls + 1 {
		s.WriteString("r0(" + strconv.Itoa(k) + ").\n")
	}
	p := read(t, s.String())
	got, e := model.Eval(p, make([][][]api.Val, api.MaxDecls), 60*141)
	if e != api.OK {
		t.Fatal(e)
	}
	for k, l := range got {
		if len(l) != 141 || l[0][0] != num(int64(k)) || l[140][0] != num(int64(k+140)) {
			t.Errorf("%d: %v", k, l)
		}
	}
	if l, e := model.Eval(p, make([][][]api.Val, api.MaxDecls), 60*141-1); l != nil || e != api.ErrLimit {
		t.Errorf("%d, %d", len(l), e)
	}
}

// R1: of rows that are unlike in columns alone that nothing names one is as
// good as all.
func TestManyRowsThatAreAlikeInWhatIsNamed(t *testing.T) {
	const n = 3000
	var many [][]api.Val
	for k := range 2 * n {
		many = append(many, []api.Val{num(int64(k / n)), num(int64(k % n))})
	}
	s := ".decl e(a: number, b: number) .decl q(a: number) .decl w(" + strings.TrimSuffix(strings.Repeat("a: number, ", 8), ", ") + ")\n"
	for rule, want := range map[string]int{
		"w(a, b, c, d, f, g, h, i) :- e(a, _), e(b, _), e(c, _), e(d, _), e(f, _), e(g, _), e(h, _), e(i, _).": 256,
		"w(a, a, a, a, a, a, a, b) :- e(b, _), e(_, a), e(_, _), e(c, d).":                                     2 * n,
		"w(a, a, a, a, a, a, a, a) :- e(b, a), e(c, a).":                                                       n,
		"w(a, a, a, a, a, a, a, a) :- e(_, a), e(0, b), e(1, _), !q(a), a <= 29999.":                           n,
	} {
		p := read(t, s+rule)
		m, e := model.Eval(p, [][][]api.Val{many, nil, nil}, api.MaxLimit)
		if e != api.OK || len(m[2]) != want {
			t.Errorf("%s: %d rows, %d", rule, len(m), e)
			continue
		}
		if l, e := model.Fire(p, 0, m); e != api.OK || !same(l, m[2]) {
			t.Errorf("%s: of the model %d rows, %d", rule, len(l), e)
		}
	}
}

// P9.1, P9.2: no two rows are taken for one, nor for such as have some values,
// whatever bytes and figures stand in them.
func TestRowsThatLookAlike(t *testing.T) {
	texts := []string{""}
	for k := 0; len(texts) < 70; k++ {
		for _, c := range []string{"0", "1", ":", ","} {
			texts = append(texts, texts[k]+c)
		}
	}
	var pairs, numbers [][]api.Val
	for _, a := range texts {
		for _, b := range texts {
			pairs = append(pairs, []api.Val{sym(a), sym(b)})
		}
	}
	for a := int64(-12); a < 124; a++ {
		for b := int64(-12); b < 124; b += 3 {
			numbers = append(numbers, []api.Val{num(a), num(b)})
		}
	}
	p := read(t, `.decl s(a: symbol, b: symbol) .decl n(a: number, b: number) .decl t(a: symbol, b: symbol) .decl m(a: number, b: number)
t(x, y) :- s(x, y), c = count : { s(x, y) }, c = 1, s(x, y). m(x, y) :- n(x, y), c = sum x : { n(x, y) }, c = x, n(x, y).`)
	in := [][][]api.Val{rel.Sort(pairs), numbers, nil, nil}
	got, e := model.Eval(p, in, api.MaxLimit)
	if e != api.OK || !same(got[2], in[0]) || !same(got[3], in[1]) {
		t.Errorf("%d: %d and %d rows of %d and %d", e, len(got[2]), len(got[3]), len(in[0]), len(in[1]))
	}
	for k, want := range in[:2] {
		if l, e := model.Fire(p, k, in); e != api.OK || !same(l, want) {
			t.Errorf("%d: %d rows of %d", e, len(l), len(want))
		}
	}
}
