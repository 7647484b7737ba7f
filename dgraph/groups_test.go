package dgraph_test

import (
	"math"
	"reflect"
	"slices"
	"strings"
	"testing"

	"sorites/api"
	"sorites/dgraph"
)

// groupsOf are those that a text names, as in "ab c".
func groupsOf(s string) [][]int {
	var l [][]int
	for _, f := range strings.Fields(s) {
		var group []int
		for _, c := range f {
			group = append(group, place(string(c)))
		}
		l = append(l, group)
	}
	return l
}

// P7.2
func TestGroups(t *testing.T) {
	for s, want := range map[string]string{
		"":           "a b c d e f",
		"a(1). f(2)": "a b c d e f",

		// on what they hang comes ahead, else the least place
		"a(x) :- b(x)":               "b a c d e f",
		"a(x) :- f(x)":               "b c d e f a",
		"f(x) :- a(x)":               "a b c d e f",
		"a(x) :- c(x). b(x) :- c(x)": "c a b d e f",
		"a(x) :- c(x). b(x) :- a(x). c(x) :- f(x)":    "d e f c a b",
		"a(x) :- f(x). b(x) :- e(x). c(x) :- d(x)":    "d c e b f a",
		"a(x) :- b(x), c(x). b(x) :- d(x), e(x)":      "c d e b a f",
		"a(1) :- !b(1). b(n) :- n = count : { c(_) }": "c b a d e f",
		"a(n) :- n = sum x : { d(x) }, n < 3":         "b c d a e f",

		// groups of some
		"a(x) :- a(x)":                                   "a b c d e f",
		"a(x) :- b(x). b(x) :- a(x)":                     "ab c d e f",
		"e(x) :- a(x). a(x) :- e(x)":                     "ae b c d f",
		"f(x) :- c(x). c(x) :- b(x). b(x) :- f(x)":       "a bcf d e",
		"a(x) :- f(x). f(x) :- a(x), e(x). b(x) :- a(x)": "c d e af b",
		"a(x) :- f(x). f(x) :- a(x). b(x) :- c(x). e(x) :- d(x). d(x) :- e(x), b(x)":         "af c b de",
		"a(x) :- b(x). b(x) :- a(x), d(x). c(x) :- d(x). d(x) :- c(x)":                       "cd ab e f",
		"f(x) :- e(x). e(x) :- d(x). d(x) :- c(x). c(x) :- b(x). b(x) :- a(x). a(x) :- f(x)": "abcdef",
		"a(x) :- b(x). b(x) :- d(x), a(x). c(x) :- d(x), b(x). d(x) :- b(x), f(x)":           "e f abd c",

		// what is asked of all rows, or is new, but not of its own group
		"a(x) :- b(x), !c(x). b(x) :- a(x). d(n) :- n = max x : { a(x) }": "c ab d e f",
		"a(y) :- b(x), y = x + 1. b(x) :- c(x)":                           "c b a d e f",
		"a(n) :- n = count : { b(_) }. b(x) :- b(x), !c(x)":               "c b a d e f",
		"a(x) :- a(x), x = y, y = 3, x + 1 < 2 * y, b(x + 1)":             "b a c d e f",
		"a(x) :- a(x), b(y), x + 1 = 2 * y":                               "b a c d e f",
	} {
		got, line, e := dgraph.Groups(read(t, relations+closed(s)))
		if !reflect.DeepEqual(got, groupsOf(want)) || line != 0 || e != api.OK {
			t.Errorf("%q: %v, %d, %d, not %s", s, got, line, e, want)
		}
	}
}

// P7.2
func TestGroupsOfNothing(t *testing.T) {
	if got, line, e := dgraph.Groups(api.Prog{}); len(got) != 0 || line != 0 || e != api.OK {
		t.Errorf("%v, %d, %d", got, line, e)
	}
}

// P7.2: by the rule in line 2 the program is not layered.
func TestNotLayered(t *testing.T) {
	for s, want := range map[string]api.Errno{
		// what is to be missing, or is reckoned, of the same group
		"\na(x) :- b(x), !a(x).":                                     api.ErrStrat,
		"\na(1) :- !a(1).":                                           api.ErrStrat,
		"\na(n) :- n = count : { a(_) }.":                            api.ErrStrat,
		"\na(n) :- n = sum x : { a(x) }.":                            api.ErrStrat,
		"\na(n) :- n = min x : { a(x) }.":                            api.ErrStrat,
		"\na(n) :- n = max x : { a(x) }.":                            api.ErrStrat,
		"a(x) :- b(x).\nb(x) :- c(x), !a(x).":                        api.ErrStrat,
		"\nb(x) :- c(x), !a(x).\na(x) :- b(x).":                      api.ErrStrat,
		"a(x) :- b(x). b(x) :- c(x).\nc(n) :- n = max x : { a(x) }.": api.ErrStrat,
		"\na(x) :- c(x), !c(1), !b(x).\nb(x) :- a(x).":               api.ErrStrat,
		"\na(x) :- a(x), c(x), x < 3, !c(1), !a(2).":                 api.ErrStrat,
		"\na(1) :- !b(1).\nb(1) :- !c(1).\nc(1) :- !a(1).":           api.ErrStrat,

		// new numbers of the same group
		"\na(y) :- a(x), y = x + 1.":                    api.ErrInvent,
		"\na(y) :- y - 1 = z, a(y), b(z).":              api.ErrInvent,
		"\na(x) :- a(x), y = 2 * x.":                    api.ErrInvent,
		"\na(x) :- a(x), y = 1 + 2.":                    api.ErrInvent,
		"\na(x) :- a(x), b(n), n = count : { c(_) }.":   api.ErrInvent,
		"\na(x) :- a(x), 3 = max y : { c(y) }.":         api.ErrInvent,
		"a(x) :- b(x).\nb(y) :- a(x), c(x), y = x * x.": api.ErrInvent,
		"\na(y) :- b(x), y = x + 1.\nb(x) :- a(x).":     api.ErrInvent,

		// of one rule, and of two
		"\na(y) :- a(x), y = x + 1, !a(y).":                                                               api.ErrStrat,
		"\na(y) :- !a(y), a(x), y = x + 1.":                                                               api.ErrStrat,
		"\na(n) :- a(n), n = count : { a(_) }.":                                                           api.ErrStrat,
		"\na(y) :- a(x), y = x + 1.\na(x) :- b(x), !a(x).":                                                api.ErrInvent,
		"\na(x) :- b(x), !a(x).\na(y) :- a(x), y = x + 1.":                                                api.ErrStrat,
		"a(x) :- b(x), !c(x). c(y) :- b(x), y = x + 1. a(1).\na(x) :- a(x), z = x - 1.\n\nc(1) :- !c(2).": api.ErrInvent,
	} {
		got, line, e := dgraph.Groups(read(t, relations+s))
		if len(got) != 0 || line != 2 || e != want {
			t.Errorf("%q: %v, %d, %d, not %d", s, got, line, e, want)
		}
	}
}

// P7.2: the line is the one that stands there, whatever it is.
func TestGroupsTellTheLineThatStandsThere(t *testing.T) {
	for _, line := range []int{0, -1, 7, math.MaxInt, math.MinInt} {
		for s, want := range map[string]api.Errno{
			"a(1). a(x) :- b(x), !a(x). b(x) :- c(x), !b(x).": api.ErrStrat,
			"a(1). a(y) :- a(x), y = x + 1. b(1) :- !b(1).":   api.ErrInvent,
		} {
			p := read(t, relations+s)
			p.Rules[1].Line = line
			if got, l, e := dgraph.Groups(p); len(got) != 0 || l != line || e != want {
				t.Errorf("%q: %v, %d, %d, not %d, %d", s, got, l, e, line, want)
			}
		}
	}
}

func callAll(p api.Prog) {
	dgraph.Groups(p)
	for a := range p.Decls {
		for b := range p.Decls {
			dgraph.Hangs(p, a, b)
			dgraph.Mutual(p, a, b)
		}
	}
	for k := range p.Rules {
		dgraph.Recursive(p, k)
	}
}

// R3
func TestWhatIsHandedInIsLeftAsItIs(t *testing.T) {
	for _, s := range []string{
		"a(x) :- c(x), b(x), y = x + 1, !d(y). b(x) :- a(x), x < 3. d(n) :- n = sum x : { f(x) }.",
		"a(x) :- b(x), !a(x).",
	} {
		p, was := read(t, relations+s), read(t, relations+s)
		spare := api.Lit{Op: math.MaxInt64, X: api.Term{S: "spare"}}
		for i := range p.Rules {
			n := len(p.Rules[i].Body)
			p.Rules[i].Body = append(p.Rules[i].Body, spare)[:n]
		}
		decls := append(p.Decls, api.Decl{Rel: "spare"})
		p.Decls = decls[:len(p.Decls)]
		callAll(p)
		if !reflect.DeepEqual(p, was) || decls[len(p.Decls)].Rel != "spare" {
			t.Errorf("%v became %v", was, p)
		}
		for _, r := range p.Rules {
			if behind := r.Body[:len(r.Body)+1][len(r.Body)]; !reflect.DeepEqual(behind, spare) {
				t.Errorf("spare room: %v", behind)
			}
		}
	}
}

// R3: each list may be written into, and its spare room, and no other list,
// nor a later answer, is another one by that.
func TestAnswersAreNewMemory(t *testing.T) {
	p := read(t, relations+"a(x) :- b(x). b(x) :- a(x). c(x) :- d(x). d(x) :- c(x), a(x). e(x) :- f(x).")
	want := groupsOf("ab cd f e")
	for range 2 {
		got, _, _ := dgraph.Groups(p)
		for i := range got {
			if !slices.EqualFunc(got[i:], want[i:], slices.Equal) {
				t.Fatalf("%v, not %v", got[i:], want[i:])
			}
			for range 3 {
				got[i] = append(got[i], -7)
			}
			for k := range got[i][:cap(got[i])] {
				got[i][:cap(got[i])][k] = -7
			}
		}
	}
	got, _, _ := dgraph.Groups(p)
	for i := len(got) - 1; i >= 0; i-- {
		if !slices.Equal(got[i], want[i]) {
			t.Fatalf("%d: %v, not %v", i, got[i], want[i])
		}
		for k := range got[i][:cap(got[i])] {
			got[i][:cap(got[i])][k] = -7
		}
	}
}
