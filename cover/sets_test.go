package cover_test

import (
	"fmt"
	"math"
	"math/bits"
	"slices"
	"strconv"
	"strings"
	"testing"

	"sorites/api"
	"sorites/cover"
	"sorites/dlex"
	"sorites/dread"
	"sorites/dsafe"
)

func read(t *testing.T, s string) api.Prog {
	t.Helper()
	l, line, e := dlex.Lex(s)
	if e != api.OK {
		t.Fatalf("%q: %d in line %d", s, e, line)
	}
	p, line, e := dread.Parse(l)
	if e != api.OK {
		t.Fatalf("%q: %d in line %d", s, e, line)
	}
	return p
}

// list is one of numbers, as they stand in a text.
func list(s string) []int {
	var l []int
	for _, f := range strings.Fields(s) {
		n, _ := strconv.Atoi(f)
		l = append(l, n)
	}
	return l
}

// lists are those of a text, parted by `|`, as in "0 | 1 2"; of no text none.
func lists(s string) [][]int {
	var l [][]int
	if s != "" {
		for _, f := range strings.Split(s, "|") {
			l = append(l, list(f))
		}
	}
	return l
}

func same(a, b [][]int) bool { return slices.EqualFunc(a, b, slices.Equal) }

const decls = `.decl e(x: number, y: number, z: number)
.decl p(x: number)
.decl s(x: symbol, y: number)
`

// P12.1: the look-ups of e, p, s.
func TestSets(t *testing.T) {
	for _, x := range []struct{ rules, e, p, s string }{
		{"", "", "", ""},
		// an LAtom
		{"p(x) :- e(x, _, _).", "", "", ""},
		{"p(x) :- e(x, y, z).", "", "", ""},
		{"p(x) :- e(x, 1, _).", "1", "", ""},
		{"p(x) :- e(x, _, -1).", "2", "", ""},
		{"p(1) :- e(1, 2, 3).", "0 1 2", "", ""},
		{"p(x) :- e(x, x, x).", "", "", ""},
		{"p(x) :- e(x, x, 2).", "2", "", ""},
		{"p(y) :- p(x), e(x, y, y).", "0", "", ""},
		{"p(y) :- p(x), e(y, x, x).", "1 2", "", ""},
		{"p(x) :- p(x), e(x + 1, _, x * x).", "0 2", "", ""},
		{"p(x) :- p(x), e(x - 1, y, x).", "0 2", "", ""},
		{"p(y) :- s(\"a\", y).", "", "", "0"},
		{"p(y) :- s(u, y), s(u, 7).", "", "", "0 1"},
		{"p(x) :- p(x), p(x).", "", "0", ""},
		{"p(x) :- p(x), p(y).", "", "", ""},
		// in the rule's order, not as they stand
		{"p(x) :- e(y, x, _), x = 1, y = 2.", "0 1", "", ""},
		{"p(x) :- e(x, y, _), p(y).", "", "0", ""},
		{"p(x) :- p(y), e(x, y, _).", "1", "", ""},
		{"p(x) :- e(z + 1, x, z), e(z, _, _).", "0 2", "", ""},
		// an LNot
		{"p(x) :- p(x), !e(x, _, _).", "0", "", ""},
		{"p(x) :- !e(_, _, x), p(x).", "2", "", ""},
		{"p(x) :- p(x), !e(_, x, x).", "1 2", "", ""},
		{"p(x) :- p(x), !e(_, _, _).", "", "", ""},
		{"p(x) :- p(x), !e(1, x, 2 + x).", "0 1 2", "", ""},
		{"p(x) :- p(x), !p(x).", "", "0", ""},
		{"p(1) :- !s(_, 3).", "", "", "1"},
		// an aggregate
		{"p(n) :- n = count : { e(_, _, _) }.", "", "", ""},
		{"p(n) :- n = count : { e(x, y, x) }.", "", "", ""},
		{"p(n) :- n = count : { e(x, 4, x) }.", "1", "", ""},
		{"p(n) :- p(x), n = sum z : { e(z, y, x) }.", "2", "", ""},
		{"p(n) :- p(x), n = min z : { e(x, z, x + 1) }.", "0 2", "", ""},
		{"p(3) :- p(x), x = max z : { e(z, x, 5) }.", "1 2", "", ""},
		{"p(3) :- p(x), x = max x : { e(x, _, z) }.", "0", "", ""},
		{"p(n) :- n = sum y : { s(\"\", y) }.", "", "", "0"},
		{"p(n) :- n = count : { p(0) }.", "", "0", ""},
		// parts without a relation, which is that at 0 for them, and heads, facts
		{"p(x) :- x = 1, x < 2, x != 3, x <= 1, 1 = x.", "", "", ""},
		{"p(x) :- p(y), x = y + 1, y = 1 * x.", "", "", ""},
		{"e(1, 2, 3). p(1). s(\"a\", 2).", "", "", ""},
		{"e(x, 1, x) :- p(x).", "", "", ""},
		// of several steps, of several rules, none twice
		{"p(x) :- e(x, 1, _), e(_, x, 2), e(3, _, x).", "1 | 0 2 | 1 2", "", ""},
		{"p(x) :- e(x, 1, _), !e(_, 2, _), 5 = count : { e(_, x, _) }.", "1", "", ""},
		{"p(x) :- e(x, 1, _). p(x) :- e(_, 5, x). p(x) :- p(x), !e(_, x, _).", "1", "", ""},
		{"p(x) :- p(x), e(x, _, _), s(_, x). s(\"a\", x) :- p(x), s(\"b\", x), !p(x).", "0", "0", "1 | 0 1"},
		{"p(x) :- e(1, 2, 3), p(x). p(x) :- e(x, 2, 3). p(x) :- e(1, x, 3). p(x) :- e(1, 2, x). p(x) :- e(x, _, 3). p(x) :- e(x, 2, _). p(x) :- e(1, x, _).", "0 | 1 | 2 | 0 1 | 0 2 | 1 2 | 0 1 2", "", ""},
		// not layered
		{"p(x) :- p(x), !p(x), n = count : { p(x) }.", "", "0", ""},
	} {
		p := read(t, decls+x.rules)
		for rel, want := range []string{x.e, x.p, x.s} {
			if got, e := cover.Sets(p, rel); !same(got, lists(want)) || e != api.OK {
				t.Errorf("%s: relation %d: %v, %d, not %s", x.rules, rel, got, e, want)
			}
		}
	}
}

// noneWith is a part by which e, of eight numbers, has no row with ones in some
// columns.
func noneWith(cols uint) string {
	var args []string
	for c := range api.MaxCols {
		args = append(args, []string{"_", "1"}[cols>>c&1])
	}
	return "!e(" + strings.Join(args, ", ") + ")"
}

// P12.1: all look-ups that there can be, shorter ones first.
func TestSetsInOrder(t *testing.T) {
	rules := strings.Builder{}
	rules.WriteString(".decl e(a: number, b: number, c: number, d: number, f: number, g: number, h: number, i: number)\n")
	var parts []string
	for k := range uint(510) {
		parts = append(parts, noneWith(k*101%255+1))
	}
	for l := range slices.Chunk(parts, api.MaxBody) {
		fmt.Fprintf(&rules, "e(1, 2, 3, 4, 5, 6, 7, 8) :- %s.\n", strings.Join(l, ", "))
	}
	got, e := cover.Sets(read(t, rules.String()), 0)
	if len(got) != 255 || e != api.OK {
		t.Fatalf("%d: %v, %d", len(got), got, e)
	}
	for k, set := range got[1:] {
		ahead := got[k]
		if len(ahead) > len(set) || len(ahead) == len(set) && fmt.Sprint(ahead) >= fmt.Sprint(set) {
			t.Errorf("%v ahead of %v", ahead, set)
		}
	}
	if !same(got[:9], lists("0|1|2|3|4|5|6|7|0 1")) || !same(got[253:], lists("1 2 3 4 5 6 7|0 1 2 3 4 5 6 7")) {
		t.Error(got)
	}
}

// greatest is a program of as many relations, rules, parts and columns as there
// may be, each part with a look-up; the relation at k has those of k+1.
func greatest() api.Prog {
	var p api.Prog
	var names []string
	for range api.MaxCols {
		names = append(names, "c"+strconv.Itoa(len(names)))
	}
	for k := range api.MaxDecls {
		d := api.Decl{Rel: "r" + strconv.Itoa(k), Names: names}
		for range names {
			d.Types = append(d.Types, api.TNum)
		}
		p.Decls = append(p.Decls, d)
	}
	for k := range api.MaxRules {
		r := api.Rule{Head: api.Atom{Rel: "r0"}}
		for range names {
			r.Head.L = append(r.Head.L, api.Term{Op: api.OInt, N: int64(k)})
		}
		for n := range api.MaxBody {
			at := (k + n) % api.MaxDecls
			a := api.Atom{Rel: p.Decls[at].Rel}
			for c := range names {
				if (at+1)>>c&1 == 1 {
					a.L = append(a.L, api.Term{Op: api.OInt, N: int64(n)})
				} else {
					a.L = append(a.L, api.Term{Op: api.OVar, S: fmt.Sprintf("v%dn%d", n, c)})
				}
			}
			r.Body = append(r.Body, api.Lit{Op: api.LAtom, A: a})
		}
		p.Rules = append(p.Rules, r)
	}
	return p
}

// R1: greatest programs are answered, in a time that one waits.
func TestSetsOfTheGreatest(t *testing.T) {
	p := greatest()
	if line, e := dsafe.Check(p); e != api.OK {
		t.Fatalf("%d in line %d", e, line)
	}
	for k := 0; k < api.MaxDecls; k += 7 {
		got, e := cover.Sets(p, k)
		if len(got) != 1 || len(got[0]) != bits.OnesCount(uint(k+1)) || e != api.OK {
			t.Errorf("relation %d: %v, %d", k, got, e)
		}
	}
}

// wrongs are rules, or relations, that are not typed, or not safe, and why.
var wrongs = map[string]api.Errno{
	".decl e(x: number)":                    api.ErrTwice,
	"p(x) :- q(x).":                         api.ErrNoRel,
	"p(x) :- e(x, _).":                      api.ErrArity,
	"p(u) :- s(u, _).":                      api.ErrType,
	"p(x) :- !e(x, 1, 1).":                  api.ErrUnsafe,
	"p(x) :- p(y).":                         api.ErrUnsafe,
	"p(x) :- p(x), x + y = 1.":              api.ErrUnsafe,
	"p(x) :- p(x), !p(y). p(x) :- q(x).":    api.ErrNoRel,
	"p(x) :- p(x), y < 3. p(u) :- s(u, _).": api.ErrType,
}

var wrongPlaces = []int{-1, 3, 4, api.MaxDecls, -2, math.MinInt, math.MaxInt, 1 << 32, 1<<32 + 1}

// P12.1: dsafe.Check's error comes ahead of ErrArg.
func TestSetsOfWrongThings(t *testing.T) {
	for s, want := range wrongs {
		p := read(t, decls+"p(x) :- e(x, 1, _). "+s)
		for _, rel := range append([]int{0, 1, 2}, wrongPlaces...) {
			if got, e := cover.Sets(p, rel); len(got) > 0 || e != want {
				t.Errorf("%s: relation %d: %v, %d, not %d", s, rel, got, e, want)
			}
		}
	}
	p := read(t, decls+"p(x) :- e(x, 1, _).")
	for _, rel := range wrongPlaces {
		if got, e := cover.Sets(p, rel); len(got) > 0 || e != api.ErrArg {
			t.Errorf("relation %d: %v, %d", rel, got, e)
		}
	}
	for _, rel := range []int{0, 1, -1} {
		if got, e := cover.Sets(api.Prog{}, rel); len(got) > 0 || e != api.ErrArg {
			t.Errorf("no relations: %d: %v, %d", rel, got, e)
		}
		if got, e := cover.Sets(api.Prog{Rules: make([]api.Rule, 1)}, rel); len(got) > 0 || e != api.ErrTree {
			t.Errorf("no right rule: %d: %v, %d", rel, got, e)
		}
	}
	p.Rules = slices.Repeat(p.Rules, api.MaxRules+1)
	if got, e := cover.Sets(p, 0); len(got) > 0 || e != api.ErrTree {
		t.Errorf("too many rules: %v, %d", got, e)
	}
	self := api.Term{Op: api.OAdd, L: make([]api.Term, 2)}
	self.L[0], self.L[1] = self, self
	p = read(t, decls+"p(x) :- e(x, 1, _).")
	p.Rules[0].Body[0].A.L[1] = self
	if got, e := cover.Sets(p, 0); len(got) > 0 || e != api.ErrTree {
		t.Errorf("a term that holds itself: %v, %d", got, e)
	}
}
