package dgraph_test

import (
	"math"
	"slices"
	"strconv"
	"strings"
	"testing"

	"sorites/api"
	"sorites/dgraph"
	"sorites/dlex"
	"sorites/dread"
)

// relations are a to f, of one column each, at the places 0 to 5.
const relations = ".decl a(x: number) .decl b(x: number) .decl c(x: number) .decl d(x: number) .decl e(x: number) .decl f(x: number) "

func read(t *testing.T, s string) api.Prog {
	t.Helper()
	l, _, e := dlex.Lex(s)
	if e != api.OK {
		t.Fatalf("%q: %d", s, e)
	}
	p, line, e := dread.Parse(l)
	if e != api.OK {
		t.Fatalf("%q: %d in line %d", s, e, line)
	}
	return p
}

// place is that of a relation of one letter.
func place(name string) int { return strings.Index("abcdef", name) }

// tryPairs asks for all pairs of relations; of those wanted it is true.
func tryPairs(t *testing.T, call func(api.Prog, int, int) (bool, api.Errno), s, want string) {
	t.Helper()
	p, pairs := read(t, relations+closed(s)), strings.Fields(want)
	for _, a := range "abcdef" {
		for _, b := range "abcdef" {
			pair := string(a) + string(b)
			got, e := call(p, place(pair[:1]), place(pair[1:]))
			if got != slices.Contains(pairs, pair) || e != api.OK {
				t.Errorf("%q: %s: %v, %d", s, pair, got, e)
			}
		}
	}
}

// closed ends a text's last rule.
func closed(s string) string {
	if s == "" || strings.HasSuffix(s, ".") {
		return s
	}
	return s + "."
}

var noPlaces = []int{-1, -2, 1 << 31, math.MaxInt, math.MinInt}

// P7.1: all pairs of which the first one hangs on the second, itself, by a
// rule.
func TestHangs(t *testing.T) {
	for s, want := range map[string]string{
		"":              "",
		"a(1). b(2).":   "",
		"a(1) :- 1 < 2": "",
		"a(x) :- x = 1, x != 2, x < 3, x <= 4, 1 = 1": "",

		// each kind of part that has an atom
		"a(x) :- b(x)":                                                  "ab",
		"a(1) :- !b(1)":                                                 "ab",
		"a(n) :- n = count : { b(_) }":                                  "ab",
		"a(n) :- n = sum x : { b(x) }":                                  "ab",
		"a(n) :- n = min x : { b(x) }":                                  "ab",
		"a(n) :- n = max x : { b(x) }":                                  "ab",
		"a(x) :- b(x), c(x), x < 3, !d(x)":                              "ab ac ad",
		"a(x) :- x = 1, !b(x), 2 = count : { c(_) }, d(y), y = x, e(_)": "ab ac ad ae",

		// of itself, and of what is told more than once
		"a(x) :- a(x)":             "aa",
		"a(x) :- a(x), a(1), b(x)": "aa ab",
		"a(x) :- b(x), b(1). a(x) :- b(x). a(x) :- c(x)": "ab ac",

		// not over others, nor the other way
		"a(x) :- b(x). b(x) :- c(x)":                "ab bc",
		"a(x) :- b(x). b(x) :- a(x)":                "ab ba",
		"c(x) :- f(x). f(1). f(x) :- e(x), !a(x)":   "cf fe fa",
		"f(x) :- a(x). a(x) :- f(x), !c(x). d(2)":   "fa af ac",
		"a(n) :- n = count : { a(_) }, b(n), !a(n)": "aa ab",
		"a(y) :- a(x), y = x + 1":                   "aa",
	} {
		tryPairs(t, dgraph.Hangs, s, want)
	}
}

// P7.1: all pairs that are mutual, beside those of one and the same.
func TestMutual(t *testing.T) {
	for s, want := range map[string]string{
		"":                           "",
		"a(x) :- a(x)":               "",
		"a(x) :- b(x)":               "",
		"a(x) :- b(x). b(x) :- c(x)": "",
		"a(x) :- b(x). c(x) :- b(x)": "",
		"a(x) :- b(x). b(x) :- a(x)": "ab ba",
		"a(1) :- !b(1). b(n) :- n = count : { a(_) }":                                "ab ba",
		"a(x) :- b(x). b(x) :- c(x). c(x) :- a(x)":                                   "ab ba bc cb ac ca",
		"f(x) :- d(x). d(x) :- b(x), a(x). b(x) :- f(x)":                             "fd df db bd fb bf",
		"a(x) :- b(x). b(x) :- a(x). c(x) :- d(x). d(x) :- c(x), a(x)":               "ab ba cd dc",
		"a(x) :- b(x). b(x) :- a(x), c(x). c(x) :- b(x)":                             "ab ba bc cb ac ca",
		"a(x) :- b(x). b(x) :- c(x). c(x) :- d(x). d(x) :- e(x), b(x). e(x) :- f(x)": "bc cb cd dc bd db",
	} {
		tryPairs(t, dgraph.Mutual, s, want+" aa bb cc dd ee ff")
	}
}

// P7.1: which rules are, of each text "1", else "0".
func TestRecursive(t *testing.T) {
	for s, want := range map[string]string{
		"a(1)":                                      "0",
		"a(x) :- a(x)":                              "1",
		"a(x) :- b(x)":                              "0",
		"a(x) :- b(x). a(x) :- a(x), b(x). b(1)":    "010",
		"a(x) :- b(x), c(x). b(x) :- c(x), a(x)":    "11",
		"a(x) :- b(x). b(x) :- c(x). c(x) :- a(x)":  "111",
		"a(x) :- b(x). b(x) :- c(x). c(x) :- c(x)":  "001",
		"a(x) :- b(x). b(x) :- a(x). b(x) :- c(x)":  "110",
		"a(x) :- b(x). b(x) :- a(x). c(x) :- a(x)":  "110",
		"a(x) :- b(x). b(x) :- !a(x), c(x). b(1)":   "100",
		"a(x) :- !a(x), b(x)":                       "0",
		"a(n) :- n = count : { a(_) }":              "0",
		"a(n) :- n = max x : { a(x) }, a(n), !a(1)": "1",
		"a(x) :- x = 1, x < 2, 3 = 3":               "0",
		"a(y) :- a(x), y = x + 1":                   "1",
		"d(x) :- f(x), a(_), e(x). e(x) :- d(x)":    "11",
	} {
		p := read(t, relations+closed(s))
		for k := range p.Rules {
			if got, e := dgraph.Recursive(p, k); got != (want[k] == '1') || e != api.OK {
				t.Errorf("%q, %d: %v, %d", s, k, got, e)
			}
		}
	}
}

// P7.1
func TestNoPlaces(t *testing.T) {
	p := read(t, relations+"a(x) :- a(x). b(1).")
	for _, k := range append(noPlaces, 6, 7) {
		for _, pair := range [][2]int{{k, 0}, {0, k}, {k, k}, {5, k}, {k, 5}} {
			if got, e := dgraph.Hangs(p, pair[0], pair[1]); got || e != api.ErrArg {
				t.Errorf("Hangs %v: %v, %d", pair, got, e)
			}
			if got, e := dgraph.Mutual(p, pair[0], pair[1]); got || e != api.ErrArg {
				t.Errorf("Mutual %v: %v, %d", pair, got, e)
			}
		}
	}
	for _, k := range append(noPlaces, 2, 3) {
		if got, e := dgraph.Recursive(p, k); got || e != api.ErrArg {
			t.Errorf("Recursive %d: %v, %d", k, got, e)
		}
	}
	for _, p := range []api.Prog{{}, {Decls: []api.Decl{}, Rules: []api.Rule{}}} {
		for _, k := range append(noPlaces, 0, 1) {
			if got, e := dgraph.Hangs(p, k, k); got || e != api.ErrArg {
				t.Errorf("Hangs of nothing, %d: %v, %d", k, got, e)
			}
			if got, e := dgraph.Mutual(p, k, k); got || e != api.ErrArg {
				t.Errorf("Mutual of nothing, %d: %v, %d", k, got, e)
			}
			if got, e := dgraph.Recursive(p, k); got || e != api.ErrArg {
				t.Errorf("Recursive of nothing, %d: %v, %d", k, got, e)
			}
		}
	}
}

// wrongProgram is one that dsafe.Check refuses, and what it says.
type wrongProgram struct {
	p    api.Prog
	line int
	e    api.Errno
}

// wrongPrograms have what is wrong in a rule behind, or ahead of, one that is
// not layered.
func wrongPrograms(t *testing.T) []wrongProgram {
	var l []wrongProgram
	for s, want := range map[string]api.Errno{
		"a(x) :- !a(x).":                api.ErrUnsafe,
		"a(x) :- b(y).":                 api.ErrUnsafe,
		"g(1).":                         api.ErrNoRel,
		"a(1, 2).":                      api.ErrArity,
		"a(\"s\").":                     api.ErrType,
		".decl a(y: symbol)":            api.ErrTwice,
		"a(x) :- a(x), x = \"s\".":      api.ErrType,
		"a(x) :- b(x), !c(x, x).":       api.ErrArity,
		"a(1) :- n = count : { g(_) }.": api.ErrNoRel,
	} {
		l = append(l,
			wrongProgram{read(t, relations+"\n"+s+"\nb(x) :- c(x), !b(x)."), 2, want},
			wrongProgram{read(t, relations+"b(x) :- c(x), !b(x). b(y) :- b(x), y = x + 1.\n\n"+s), 3, want})
	}
	for _, r := range []api.Rule{
		{},
		{Line: 4},
		{Head: api.Atom{Rel: "a"}, Line: 4},
		{Head: api.Atom{Rel: "a", L: []api.Term{{Op: api.OVar, S: "x"}}}, Line: 4},
		{Head: api.Atom{Rel: "a", L: []api.Term{{Op: api.OInt}}}, Body: []api.Lit{{}}, Line: 4},
		{Head: api.Atom{Rel: "a", L: []api.Term{{Op: api.OInt}}}, Body: []api.Lit{{Op: api.LAtom}}, Line: 4},
	} {
		p := read(t, relations+"b(x) :- c(x), !b(x).")
		p.Rules = append(p.Rules, r)
		l = append(l, wrongProgram{p, 0, api.ErrTree})
	}
	p := read(t, relations)
	p.Decls[3].Types = []int{3}
	l = append(l, wrongProgram{p, 0, api.ErrTree})
	return l
}

// P7.1, P7.2: what is wrong with the program comes ahead of places that are
// none, and of what is not layered.
func TestWrongPrograms(t *testing.T) {
	for i, w := range wrongPrograms(t) {
		if got, line, e := dgraph.Groups(w.p); len(got) != 0 || line != w.line || e != w.e {
			t.Errorf("Groups %d: %v, %d, %d, not %d, %d", i, got, line, e, w.line, w.e)
		}
		for _, k := range append(noPlaces, 0, 1, 200) {
			if got, e := dgraph.Hangs(w.p, k, 0); got || e != w.e {
				t.Errorf("Hangs %d, %d: %v, %d", i, k, got, e)
			}
			if got, e := dgraph.Mutual(w.p, 0, k); got || e != w.e {
				t.Errorf("Mutual %d, %d: %v, %d", i, k, got, e)
			}
			if got, e := dgraph.Recursive(w.p, k); got || e != w.e {
				t.Errorf("Recursive %d, %d: %v, %d", i, k, got, e)
			}
		}
	}
}

// P7.1: a program that is not layered still has what its relations hang on.
func TestProgramsThatAreNotLayered(t *testing.T) {
	p := read(t, relations+"a(x) :- b(x), !a(x). a(y) :- a(x), y = x + 1.")
	if _, _, e := dgraph.Groups(p); e != api.ErrStrat {
		t.Errorf("Groups: %d", e)
	}
	if got, e := dgraph.Hangs(p, 0, 1); !got || e != api.OK {
		t.Errorf("Hangs: %v, %d", got, e)
	}
	if got, e := dgraph.Mutual(p, 0, 1); got || e != api.OK {
		t.Errorf("Mutual: %v, %d", got, e)
	}
	for k, want := range []bool{false, true} {
		if got, e := dgraph.Recursive(p, k); got != want || e != api.OK {
			t.Errorf("Recursive %d: %v, %d", k, got, e)
		}
	}
}

// name is that of the relation at a place, of many.
func name(k int) string { return "r" + strconv.Itoa(k) }

// ring is a program of as many relations and rules as there may be; each
// relation hangs on the next one, and, if it is closed, the last on the first.
func ring(t *testing.T, isClosed bool) api.Prog {
	var s strings.Builder
	for k := range api.MaxDecls {
		s.WriteString(".decl " + name(k) + "(x: number)\n")
	}
	for k := range api.MaxDecls - 1 {
		s.WriteString(name(k) + "(x) :- " + name(k+1) + "(x).\n")
	}
	if isClosed {
		s.WriteString(name(api.MaxDecls-1) + "(x) :- " + name(0) + "(x).\n")
	}
	p := read(t, s.String())
	for len(p.Rules) < api.MaxRules {
		p.Rules = append(p.Rules, p.Rules[len(p.Rules)%(api.MaxDecls-1)])
	}
	return p
}

// P7.1, P7.2
func TestTheMostRelations(t *testing.T) {
	last := api.MaxDecls - 1
	for _, isClosed := range []bool{false, true} {
		p := ring(t, isClosed)
		for a := range p.Decls {
			for _, b := range []int{0, max(a-1, 0), a, min(a+1, last), last} {
				if got, e := dgraph.Hangs(p, a, b); got != (b == a+1 || isClosed && a == last && b == 0) || e != api.OK {
					t.Fatalf("Hangs %d, %d: %v, %d", a, b, got, e)
				}
				if got, e := dgraph.Mutual(p, a, b); got != (isClosed || a == b) || e != api.OK {
					t.Fatalf("Mutual %d, %d: %v, %d", a, b, got, e)
				}
			}
		}
		for k := range p.Rules {
			if got, e := dgraph.Recursive(p, k); got != isClosed || e != api.OK {
				t.Fatalf("Recursive %d: %v, %d", k, got, e)
			}
		}
		var rising []int
		var falling [][]int
		for k := range p.Decls {
			rising, falling = append(rising, k), append(falling, []int{last - k})
		}
		want := falling
		if isClosed {
			want = [][]int{rising}
		}
		if got, line, e := dgraph.Groups(p); !slices.EqualFunc(got, want, slices.Equal) || line != 0 || e != api.OK {
			t.Errorf("Groups: %v, %d, %d", got, line, e)
		}
		p.Rules = append(p.Rules, p.Rules[0])
		if got, line, e := dgraph.Groups(p); len(got) != 0 || line != 0 || e != api.ErrTree {
			t.Errorf("Groups of too many: %v, %d, %d", got, line, e)
		}
	}
}
