package ram_test

import (
	"fmt"
	"slices"
	"strconv"
	"strings"
	"testing"

	"sorites/api"
	"sorites/ram"
)

// P14.1: with as many rows as want there is room, with one less there is none.
func TestLimits(t *testing.T) {
	for rules, want := range map[string]int{
		"":                            5,
		"q(7).":                       5,
		"q(8).":                       6,
		"q(7). q(8). q(9). r(\"s\").": 8,
		"p(x, y) :- e(x, y). p(x, z) :- p(x, y), e(y, z).":                        11,
		"p(x, y) :- e(x, y). p(x, z) :- p(x, y), p(y, z).":                        11,
		"p(x, y) :- e(x, y), x < 2.":                                              6,
		"e(x, y) :- e(y, x).":                                                     8,
		"e(x, y) :- e(y, x). e(x, y) :- e(y, x).":                                 8,
		"q(x) :- e(x, _). q(x) :- e(_, x). r(\"k\") :- q(1).":                     10,
		"p(x, y) :- q(x), q(y).":                                                  6,
		"p(c, c) :- c = count : { e(_, _) }. q(c) :- p(c, _).":                    7,
		"q(x) :- p(x, _). p(x, x) :- q(x). p(y, y) :- p(x, x), e(_, y).":          12,
		"q(x) :- q(x), p(x, x). p(x, y) :- p(y, x). p(1, 1) :- e(1, _).":          6,
		"p(x, y) :- e(x, y), !p2(x). p2(2). p(x, y) :- p(y, x), x != y.":          10,
		"p2(x) :- q(x). p2(y) :- p2(x), e2(x, y). e2(7, 1). e2(x, y) :- e(x, y).": 14,
	} {
		p := read(t, decls+".decl p2(a: number) .decl e2(a: number, b: number)\n"+rules)
		in := all("1 2 | 2 3 | 3 4", "", "7", "a", "", "")
		got, e := ram.Run(p, in, want)
		if count(got) != want || e != api.OK {
			t.Errorf("%q: %d rows, %d, not %d", rules, count(got), e, want)
		}
		n, e := ram.Rounds(p, in, want)
		if more, e := ram.Run(p, in, api.MaxLimit); !allSame(more, got) || e != api.OK {
			t.Errorf("%q: with more room %v, %d", rules, more, e)
		}
		if more, e2 := ram.Rounds(p, in, api.MaxLimit); !slices.Equal(more, n) || e != api.OK || e2 != api.OK {
			t.Errorf("%q: with more room %d rounds, %d, not %d, %d", rules, more, e2, n, e)
		}
		for limit := 1; limit < want; limit++ {
			tryError(t, rules, p, in, limit, api.ErrLimit)
		}
	}
}

// ups has a row of each number.
func ups(n int) [][]api.Val {
	var l [][]api.Val
	for k := range n {
		l = append(l, []api.Val{num(int64(k))})
	}
	return l
}

// square has an edge from each number to each.
func square(n int) [][]api.Val {
	var l [][]api.Val
	for k := range n * n {
		l = append(l, []api.Val{num(int64(k / n)), num(int64(k % n))})
	}
	return l
}

// chain has an edge from each number to the next one.
func chain(n int) [][]api.Val {
	var l [][]api.Val
	for k := range n {
		l = append(l, []api.Val{num(int64(k)), num(int64(k) + 1)})
	}
	return l
}

// R1: too many rows are told, though all of them would never be reckoned; in
// what is run once, and in rounds.
func TestFarTooManyRows(t *testing.T) {
	s := ".decl w(" + strings.TrimSuffix(strings.Repeat("a: number, ", 8), ", ") + ") .decl q(a: number) .decl u(a: number, b: number)\n"
	var vars, parts []string
	for k := range 8 {
		v := "v" + strconv.Itoa(k)
		vars, parts = append(vars, v), append(parts, "q("+v+")")
	}
	head, body := "w("+strings.Join(vars, ", ")+")", strings.Join(parts, ", ")
	for _, rules := range []string{
		head + " :- " + body + ".",
		"w(1, 1, 1, 1, 1, 1, 1, 1). " + head + " :- " + head + ". " + head + " :- " + body + ".",
		head + " :- " + body + ", v0 < v7, !u(v7, v0), c = count : { u(_, _) }, c < 9. u(x, x) :- q(x), x < 5.",
		"w(1, 1, 1, 1, 1, 1, 1, 1). " + head + " :- w(v0, _, _, _, _, _, _, _), " + body + ".",
		"u(x, x) :- q(x), x < 5. u(x, y) :- u(y, x), q(y). q(x) :- w(x, _, _, _, _, _, _, _). " + head + " :- " + body + ".",
		head + " :- u(_, v0), " + body + ". u(y, x) :- u(x, y).",
		"u(y, x) :- u(x, y). u(x, y) :- q(x), q(y). " + head + " :- u(_, v0), " + body + ".",
	} {
		for _, limit := range []int{1003, 5000, 70000} {
			tryError(t, rules, read(t, s+rules), [][][]api.Val{nil, ups(1000), rows("1 2 | 2 1")}, limit, api.ErrLimit)
		}
	}
}

// P14.1: rows that are many, but have room, are all there.
func TestManyRows(t *testing.T) {
	const n = 300
	for rules, rounds := range map[string][]int{
		"p(x, y) :- q(x), q(y).":                   {0, 0, 0, 0},
		"p(0, 0). p(x, y) :- p(_, _), q(x), q(y).": {0, 0, 2, 0},
	} {
		p, in := read(t, decls+rules), [][][]api.Val{nil, nil, ups(n), nil}
		got, e := ram.Run(p, in, n*n+n)
		if count(got) != n*n+n || !same(got[1], square(n)) || e != api.OK {
			t.Errorf("%s: %d rows, %d", rules, count(got), e)
		}
		if l, e := ram.Rounds(p, in, n*n+n); !slices.Equal(l, rounds) || e != api.OK {
			t.Errorf("%s: %d rounds, %d", rules, l, e)
		}
		tryError(t, rules, p, in, n*n+n-1, api.ErrLimit)
	}
}

// R1: a path of twenty edges is gone through over its places, not as often as
// there are such paths.
func TestLongBodiesEnd(t *testing.T) {
	var path []string
	for k := range api.MaxBody {
		path = append(path, "e(v"+strconv.Itoa(k)+", v"+strconv.Itoa(k+1)+")")
	}
	long := "p(v0, v20) :- " + strings.Join(path, ", ") + ". "
	for _, c := range []struct {
		rules        string
		rows, rounds int
	}{
		{long, 100, 0},
		{long + strings.ReplaceAll(long, "e(", "p("), 100, 1},
		{"p(0, 1). " + strings.Replace(long, "e(v0", "p(v0", 1), 10, 2},
		{"p(0, 1). " + strings.ReplaceAll(long, ", e(v9", ", p(v9"), 100, 2},
		{"p(0, 1). " + strings.ReplaceAll(long, ", e(v19", ", p(v19"), 10, 2},
	} {
		p, in := read(t, decls+c.rules), [][][]api.Val{square(10), nil, nil, nil}
		got, e := ram.Run(p, in, 1000)
		if e != api.OK || len(got[1]) != c.rows {
			t.Errorf("%s: %d rows, %d", c.rules, count(got), e)
		}
		if n, e := ram.Rounds(p, in, 1000); !slices.Equal(n, []int{0, c.rounds, 0, 0}) || e != api.OK {
			t.Errorf("%s: %d rounds, %d", c.rules, n, e)
		}
	}
}

// P14.1, P14.2: of a long chain, by rules of each shape.
func TestPathsOfALongChain(t *testing.T) {
	const n = 100
	var want [][]api.Val
	for a := range n {
		for b := a + 1; b <= n; b++ {
			want = append(want, []api.Val{num(int64(a)), num(int64(b))})
		}
	}
	for body, rounds := range map[string]int{
		"p(x, y), e(y, z)":          n,
		"e(x, y), p(y, z)":          n,
		"p(x, y), p(y, z)":          8,
		"p(y, z), p(x, y)":          8,
		"p(x, y), p(y, z), p(x, y)": 8,
	} {
		p := read(t, decls+"p(x, y) :- e(x, y). p(x, z) :- "+body+".")
		in := [][][]api.Val{chain(n), nil, nil, nil}
		if got, e := ram.Run(p, in, len(want)+n); e != api.OK || !same(got[1], want) {
			t.Errorf("%s: %d, %d", body, len(got), e)
		}
		if l, e := ram.Rounds(p, in, len(want)+n); e != api.OK || !slices.Equal(l, []int{0, rounds, 0, 0}) {
			t.Errorf("%s: %d rounds, %d", body, l, e)
		}
	}
}

// greatest has as many relations, rules, and parts of these, as there may be:
// the first so many relations hang on each other.
func greatest(mutual int) api.Prog {
	var p api.Prog
	for k := range api.MaxDecls {
		p.Decls = append(p.Decls, api.Decl{Rel: "r" + strconv.Itoa(k), Names: []string{"x"}, Types: []int{api.TNum}})
	}
	atom := func(k int) api.Atom {
		return api.Atom{Rel: "r" + strconv.Itoa(k%mutual), L: []api.Term{{Op: api.OVar, S: "x"}}}
	}
	for k := range api.MaxRules {
		r := api.Rule{Head: atom(k)}
		for n := range api.MaxBody {
			r.Body = append(r.Body, api.Lit{Op: api.LAtom, A: atom(n + k*mutual)})
		}
		p.Rules = append(p.Rules, r)
	}
	return p
}

// P14.1, P14.2
func TestTheGreatestPrograms(t *testing.T) {
	p, in := greatest(2), make([][][]api.Val, api.MaxDecls)
	in[0], in[1], in[59] = rows("1 | 2"), rows("2 | 3"), rows("4")
	got, e := ram.Run(p, in, 5)
	if !allSame(got, in) || e != api.OK {
		t.Errorf("%v, %d", got, e)
	}
	n, e := ram.Rounds(p, in, 5)
	if e != api.OK || len(n) != api.MaxDecls-1 || n[0] != 1 || slices.Max(n[1:]) != 0 {
		t.Errorf("%d rounds, %d", n, e)
	}
	tryError(t, "the greatest", p, in, 4, api.ErrLimit)
}

// P14.1, P14.2: the most blocks, each with what the one ahead has, a row of its
// own, and all these turned round.
func TestTheMostBlocks(t *testing.T) {
	var s strings.Builder
	for k := range api.MaxDecls {
		fmt.Fprintf(&s, ".decl r%d(x: number, y: number)\n", k)
	}
	want, n := make([][][]api.Val, api.MaxDecls), make([]int, api.MaxDecls)
	in := make([][][]api.Val, api.MaxDecls)
	in[0], want[0] = rows("100 200"), rows("100 200")
	for k := 1; k < api.MaxDecls; k++ {
		fmt.Fprintf(&s, "r%d(y, x) :- r%d(x, y). r%d(%d, 0). r%d(x, y) :- r%d(x, y).\n", k, k, k, k, k, k-1)
		n[k] = 2
		for turn := 1; turn <= k; turn++ {
			want[k] = append(want[k], []api.Val{num(0), num(int64(turn))})
		}
		for turn := 1; turn <= k; turn++ {
			want[k] = append(want[k], []api.Val{num(int64(turn)), num(0)})
		}
		want[k] = append(want[k], rows("100 200 | 200 100")...)
	}
	p := read(t, s.String())
	if got, e := ram.Run(p, in, count(want)); !allSame(got, want) || e != api.OK {
		t.Errorf("%v, %d", got, e)
	}
	if got, e := ram.Rounds(p, in, count(want)); !slices.Equal(got, n) || e != api.OK {
		t.Errorf("%v, %d", got, e)
	}
	tryError(t, "the most blocks", p, in, count(want)-1, api.ErrLimit)
}
