package dsafe_test

import (
	"math"
	"reflect"
	"slices"
	"strconv"
	"strings"
	"testing"

	"sorites/api"
	"sorites/dsafe"
)

// P6.2: what is bound ahead of all parts, then after each one.
func TestBound(t *testing.T) {
	for s, want := range map[string]string{
		`p(1).`:                                                     "",
		`p(1) :- q(_).`:                                             "|",
		`p(1) :- 1 < 2.`:                                            "|",
		`p(x) :- q(x).`:                                             "|x",
		`p(x) :- y = x + 1, q(x), y < 3.`:                           "|x|x y|x y",
		`p(y, x) :- q(x), r(y).`:                                    "|x|y x",
		`p(1) :- q(b, a), r(a, c), d = b + c.`:                      "|b a|b a c|b a c d",
		`p(1) :- q(b + a), r(a), s(b).`:                             "|a|b a|b a",
		`p(1) :- c = b, b = a, a = 3.`:                              "|a|b a|c b a",
		`p(1) :- 3 = a, a = b, b = c.`:                              "|a|a b|a b c",
		`p(1) :- !q(b), b = 1, a != b, q(a).`:                       "|b|b|b a|b a",
		`p(n) :- n = count : { q(x, y) }.`:                          "|n",
		`p(1) :- 7 = sum y : { q(x, y) }.`:                          "|",
		`p(x, n) :- n = count : { q(x, y) }, r(x, z).`:              "|x z|x n z",
		`p(n) :- n = sum y : { q(x, y) }, r(x, y).`:                 "|y x|n y x",
		`p(n) :- n = max y : { q(y, x) }, m = n * 2, r(m, x).`:      "|x m|n x m|n x m",
		`p(n) :- n = min y : { q(y, z) }, r(n, k), k < n, s(u).`:    "|n|n k|n k|n k u",
		`p(n) :- q(n), n = count : { q(n) }, m = min n : { q(n) }.`: "|n|n|n m",
	} {
		r := readRule(t, s)
		for k, names := range strings.Split(want, "|") {
			if got, e := dsafe.Bound(r, k); !slices.Equal(got, strings.Fields(names)) || e != api.OK {
				t.Errorf("%q, %d: %q, %d, not %q", s, k, got, e, names)
			}
		}
		if got, e := dsafe.Bound(r, len(r.Body)+1); len(got) != 0 || e != api.ErrArg {
			t.Errorf("%q, behind its end: %q, %d", s, got, e)
		}
	}
}

var noPlaces = []int{-1, -2, 21, 1000, math.MaxInt, math.MinInt}

// P6.2
func TestWrongCounts(t *testing.T) {
	for s := range orders {
		r := readRule(t, s)
		for _, k := range noPlaces {
			if got, e := dsafe.Bound(r, k); len(got) != 0 || e != api.ErrArg {
				t.Errorf("%q, %d: %q, %d", s, k, got, e)
			}
		}
	}
	for _, s := range unsafes {
		r := readRule(t, s)
		for _, k := range append(noPlaces, 0, 1, 2) {
			if got, e := dsafe.Bound(r, k); len(got) != 0 || e != api.ErrUnsafe {
				t.Errorf("%q, %d: %q, %d", s, k, got, e)
			}
		}
	}
}

// P6.2
func TestBoundInTheLongestBody(t *testing.T) {
	var want []string
	for k := range api.MaxBody + 1 {
		if got, e := dsafe.Bound(chain(), k); !slices.Equal(got, want) || e != api.OK {
			t.Errorf("%d: %q, %d, not %q", k, got, e, want)
		}
		want = slices.Insert(want, 0, "x"+strconv.Itoa(api.MaxBody-1-k))
	}
}

// P6.2: the outer variables of each part that is an aggregate, be the rule
// safe or not.
func TestOuter(t *testing.T) {
	for s, want := range map[string]string{
		`p(x, n) :- n = count : { q(x, y) }, r(x, z).`: "x|-",

		// where a variable may stand beside
		`p(1) :- 1 = count : { q(x) }.`:                       "",
		`p(1) :- 1 = count : { q(x, x, x * x) }.`:             "",
		`p(x) :- 1 = count : { q(x) }.`:                       "x",
		`p(1) :- x = count : { q(x) }.`:                       "x",
		`p(1) :- 1 = count : { q(x) }, r(x).`:                 "x|-",
		`p(1) :- r(1 + x), 1 = count : { q(x) }.`:             "-|x",
		`p(1) :- !r(x), 1 = count : { q(x) }.`:                "-|x",
		`p(1) :- 1 = count : { q(x) }, x = 1.`:                "x|-",
		`p(1) :- 1 = count : { q(x) }, 1 != 2 * (3 - x).`:     "x|-",
		`p(1) :- 1 = count : { q(x) }, x < 1.`:                "x|-",
		`p(1) :- 1 = count : { q(x) }, 1 <= x.`:               "x|-",
		`p(1) :- 1 = count : { q(x) }, x = count : { q(1) }.`: "x|",
		`p(1) :- 1 = count : { q(x) }, 1 = count : { q(x) }.`: "x|x",
		`p(1) :- 1 = count : { q(x) }, 1 = sum x : { q(1) }.`: "x|",
		`p(1) :- 1 = count : { q(x) }, 1 = min x : { q(x) }.`: "x|x",

		// its Y alone makes none
		`p(1) :- 1 = sum x : { q(x) }.`:     "",
		`p(1) :- 1 = min x : { q(1 + x) }.`: "",
		`p(1) :- 1 = max x : { q(y) }.`:     "",
		`p(x) :- 1 = max x : { q(y) }.`:     "",
		`p(x) :- 1 = max x : { q(y, x) }.`:  "x",
		`p(1) :- x = sum x : { q(x) }.`:     "x",
		`p(1) :- x = sum y : { q(x, y) }.`:  "x",

		// all of them, in the rule's order
		`p(c, b) :- a = count : { q(a, b, c, d) }.`:                     "c b a",
		`p(1) :- 1 = count : { q(a, b + c, a) }, r(c), r(a), r(b).`:     "a b c|-|-|-",
		`p(1) :- q(c, a), !q(b), 1 = min a : { q(a, b, c, d) }.`:        "-|-|c a b",
		`p(d) :- n = sum y : { q(c, b) }, m = max c : { q(d, 1 - b) }.`: "c b|d b",
		`p(1) :- 1 = sum z : { q(y, x, z) }, x = y.`:                    "y x|-",
	} {
		r := readRule(t, s)
		for k, names := range strings.Split(want, "|") {
			wanted, wantErr := strings.Fields(names), api.OK
			if names == "-" {
				wanted, wantErr = nil, api.ErrArg
			}
			if got, e := dsafe.Outer(r, k); !slices.Equal(got, wanted) || e != wantErr {
				t.Errorf("%q, %d: %q, %d, not %q", s, k, got, e, names)
			}
		}
		for _, k := range append(noPlaces, len(r.Body)) {
			if got, e := dsafe.Outer(r, k); len(got) != 0 || e != api.ErrArg {
				t.Errorf("%q, %d: %q, %d", s, k, got, e)
			}
		}
	}
	if got, e := dsafe.Outer(readRule(t, "p(1)."), 0); len(got) != 0 || e != api.ErrArg {
		t.Errorf("a fact: %q, %d", got, e)
	}
}

// P6.2
func TestInvents(t *testing.T) {
	for s, want := range map[string]bool{
		`p(1).`:                                        false,
		`p(x) :- q(x).`:                                false,
		`p(x) :- q(x), !r(x + 1), x < 2 * x.`:          false,
		`p(x) :- q(x + 1), q(x).`:                      false,
		`p(x) :- x = 3.`:                               false,
		`p(x) :- 3 = x.`:                               false,
		`p(x) :- x = "s".`:                             false,
		`p(x) :- x = y, q(y).`:                         false,
		`p(x) :- y = x, q(y).`:                         false,
		`p(x) :- q(x), q(y), x = y + 1.`:               false,
		`p(x) :- q(x), q(y), x + 1 = y * 2.`:           false,
		`p(x) :- q(x), 3 = x + 1.`:                     false,
		`p(x) :- x = 3, x = 1 + 2.`:                    false,
		`p(x) :- y = x + 1, q(x), q(y).`:               true,
		`p(x) :- x = y + 1, q(y).`:                     true,
		`p(x) :- y - 1 = x, q(y).`:                     true,
		`p(x) :- x = y * 2, q(y).`:                     true,
		`p(x) :- x = 1 + 2.`:                           true,
		`p(x) :- x = 1 + 2, x = 3.`:                    true,
		`p(x) :- q(x), 2 * x = y, y < 3.`:              true,
		`p(x) :- q(x), z = x, y = z + 1, y = x.`:       true,
		`p(n) :- n = count : { q(x) }.`:                true,
		`p(n) :- n = sum x : { q(x) }.`:                true,
		`p(n) :- n = min x : { q(x) }.`:                true,
		`p(n) :- n = max x : { q(x) }.`:                true,
		`p(1) :- 3 = count : { q(_) }.`:                true,
		`p(n) :- n = count : { q(x, n) }, r(n).`:       true,
		`p(x) :- q(x), r(x), 3 = max y : { s(y, x) }.`: true,
	} {
		if got, e := dsafe.Invents(readRule(t, s)); got != want || e != api.OK {
			t.Errorf("%q: %v, %d", s, got, e)
		}
	}
	for _, s := range append(unsafes, `p(x) :- y = 1 + 2, !q(x).`, `p(x) :- n = count : { q(_) }.`) {
		if got, e := dsafe.Invents(readRule(t, s)); got || e != api.ErrUnsafe {
			t.Errorf("%q: %v, %d", s, got, e)
		}
	}
}

func callAll(p api.Prog) {
	dsafe.Check(p)
	for _, r := range p.Rules {
		dsafe.Order(r)
		dsafe.Invents(r)
		for k := range len(r.Body) + 1 {
			dsafe.Bound(r, k)
			dsafe.Outer(r, k)
		}
	}
}

// R3
func TestWhatIsHandedInIsLeftAsItIs(t *testing.T) {
	const s = `.decl p(a: number) .decl q(a: number, b: number)
		p(x) :- y = x + 1, q(x + z, y), p(x), z = 1 * y, !p(z), n = sum k : { q(k, x) }, n < z.
		p(1). p(x) :- q(y, y), x < y.`
	p, was := read(t, s), read(t, s)
	spare := api.Lit{Op: math.MaxInt64, A: atom("spare", variable("spare"))}
	last := variable("spare")
	for i := range p.Rules {
		body := append(p.Rules[i].Body, spare)
		p.Rules[i].Body = body[:len(body)-1]
		for k := range p.Rules[i].Body {
			l := p.Rules[i].Body[k].A.L
			p.Rules[i].Body[k].A.L = append(l, last)[:len(l)]
		}
	}
	callAll(p)
	for _, r := range p.Rules {
		if behind := r.Body[:len(r.Body)+1]; !reflect.DeepEqual(behind[len(r.Body)], spare) {
			t.Errorf("spare room: %v", behind[len(r.Body)])
		}
		for _, l := range r.Body {
			if behind := l.A.L[:len(l.A.L)+1]; !reflect.DeepEqual(behind[len(l.A.L)], last) {
				t.Errorf("spare room: %v", behind[len(l.A.L)])
			}
		}
	}
	if !reflect.DeepEqual(plain(p), plain(was)) {
		t.Errorf("%v became %v", was, p)
	}
}

// plain has nil for each list of rules and bodies that is empty.
func plain(p api.Prog) api.Prog {
	rules := slices.Clone(p.Rules)
	for i := range rules {
		rules[i].Body = slices.Clone(rules[i].Body)
		for k, l := range rules[i].Body {
			rules[i].Body[k].A.L = append([]api.Term(nil), l.A.L...)
		}
		if len(rules[i].Body) == 0 {
			rules[i].Body = nil
		}
	}
	p.Rules = rules
	return p
}

// R3
func TestAnswersAreNewMemory(t *testing.T) {
	r := readRule(t, "p(x, n) :- y = x + 1, q(x), n = count : { q(x, y) }.")
	for range 2 {
		order, _ := dsafe.Order(r)
		bound, _ := dsafe.Bound(r, 3)
		outer, _ := dsafe.Outer(r, 2)
		if !slices.Equal(order, []int{1, 0, 2}) || !slices.Equal(bound, []string{"x", "n", "y"}) || !slices.Equal(outer, []string{"x", "y"}) {
			t.Fatalf("%v, %q, %q", order, bound, outer)
		}
		for i := range order[:cap(order)] {
			order[:cap(order)][i] = -7
		}
		for _, l := range [][]string{bound, outer} {
			for i := range l[:cap(l)] {
				l[:cap(l)][i] = "changed"
			}
		}
	}
}
