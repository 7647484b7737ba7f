package query_test

import (
	"math"
	"slices"
	"strconv"
	"strings"
	"testing"
	"time"

	"sorites/api"
	"sorites/query"
)

// result has relations that rules give rows of alone.
const result = decls + `.decl one(x: number)
.decl two(x: number, y: number)
.decl sym(x: symbol)
.decl both(x: symbol, y: number)
.decl many(x: number, y: number, z: number)
`

func facts() [][][]api.Val {
	return all(
		"1 | 2 | 3",
		"1 1 | 1 2 | 2 3 | 3 1 | 4 4",
		"1 1 1 | 1 2 1 | 2 1 2 | 2 2 2 | 3 1 4",
		"'' | a | ab | b",
		"a 1 | a 2 | b 2 | c -5",
		"", "", "", "", "")
}

// tryRun holds what a rule's query gives against rows, written as a text.
func tryRun(t *testing.T, wanted map[string]string) {
	t.Helper()
	for s, want := range wanted {
		p := read(t, result+s)
		if got, e := query.Run(p, of(t, p, 0), facts(), nil); !same(got, rows(want)) || e != api.OK {
			t.Errorf("%s: %v, %d, not %s", s, got, e, want)
		}
	}
}

// P11.2
func TestRunOfFacts(t *testing.T) {
	tryRun(t, map[string]string{
		`one(3).`:          "3",
		`many(1, -2, 1).`:  "1 -2 1",
		`both("q", 0).`:    "q 0",
		`a(1).`:            "1",
		`sym("").`:         "''",
		`one(1) :- 1 = 1.`: "1",
		`one(1) :- 1 = 2.`: "",
	})
}

// P11.2
func TestRunOfScans(t *testing.T) {
	tryRun(t, map[string]string{
		`one(x) :- a(x).`:                         "1 | 2 | 3",
		`two(y, x) :- b(x, y).`:                   "1 1 | 1 3 | 2 1 | 3 2 | 4 4",
		`one(x) :- b(x, _).`:                      "1 | 2 | 3 | 4",
		`one(x) :- b(_, x).`:                      "1 | 2 | 3 | 4",
		`one(x) :- b(x, x).`:                      "1 | 4",
		`one(7) :- b(_, _).`:                      "7",
		`one(7) :- one(_).`:                       "",
		`one(7) :- b(5, _).`:                      "",
		`one(7) :- b(4, _).`:                      "7",
		`one(y) :- b(1, y).`:                      "1 | 2",
		`one(x) :- b(x, 1).`:                      "1 | 3",
		`one(x) :- b(1 + 1, x).`:                  "3",
		`one(x) :- e(x, 1, x).`:                   "1 | 2",
		`one(x) :- e(x, x, x).`:                   "1 | 2",
		`one(x) :- e(x, _, x).`:                   "1 | 2",
		`two(x, y) :- e(x, y, x).`:                "1 1 | 1 2 | 2 1 | 2 2",
		`two(x, y) :- e(x, y, y).`:                "1 1 | 2 2",
		`many(z, y, x) :- e(x, y, z).`:            "1 1 1 | 1 2 1 | 2 1 2 | 2 2 2 | 4 1 3",
		`two(x, z) :- b(x, y), b(y, z).`:          "1 1 | 1 2 | 1 3 | 2 1 | 3 1 | 3 2 | 4 4",
		`one(x) :- b(x, y), b(y, x).`:             "1 | 4",
		`two(x, x) :- a(x), b(_, x).`:             "1 1 | 2 2 | 3 3",
		`two(x, y) :- a(x), b(x + 1, y).`:         "1 3 | 2 1 | 3 4",
		`two(x, y) :- a(x), a(y), b(y - x, y).`:   "1 2 | 1 3",
		`one(z) :- a(x), e(z, x, z).`:             "1 | 2",
		`two(x, 0) :- a(x), a(y), a(z).`:          "1 0 | 2 0 | 3 0",
		`one(x) :- a(x), s(_), c("b", _).`:        "1 | 2 | 3",
		`one(x) :- a(x), c("", _).`:               "",
		`both(x, y) :- c(x, y).`:                  "a 1 | a 2 | b 2 | c -5",
		`sym(x) :- c(x, 2).`:                      "a | b",
		`sym(x) :- c(x, _), s(x).`:                "a | b",
		`one(y) :- c("a", y).`:                    "1 | 2",
		`both("q", y) :- a(y), c(_, y), b(y, 1).`: "q 1",
		`one(y) :- s(x), c(x, y).`:                "1 | 2",
	})
}

// P11.2
func TestRunOfWhatMustNotBe(t *testing.T) {
	tryRun(t, map[string]string{
		`one(x) :- a(x), !b(x, x).`:           "2 | 3",
		`one(x) :- a(x), !b(x, _).`:           "",
		`one(x) :- b(x, _), !a(x).`:           "4",
		`one(x) :- a(x), !one(x).`:            "1 | 2 | 3",
		`one(x) :- a(x), !a(_).`:              "",
		`one(1) :- !one(_).`:                  "1",
		`one(1) :- !a(7).`:                    "1",
		`one(1) :- !a(2).`:                    "",
		`one(x) :- a(x), !a(x + 1).`:          "3",
		`one(x) :- a(x), !b(x, x + 1).`:       "3",
		`one(x) :- a(x), !b(x, y), y = 1.`:    "2",
		`sym(x) :- s(x), !c(x, _).`:           "'' | ab",
		`sym(x) :- c(x, _), !c(x, 2).`:        "c",
		`sym(x) :- s(x), !s("c"), !c("", 0).`: "'' | a | ab | b",
	})
}

// P11.2
func TestRunOfTermsHeld(t *testing.T) {
	tryRun(t, map[string]string{
		`two(x, y) :- b(x, y), x < y.`:                  "1 2 | 2 3",
		`two(x, y) :- b(x, y), x > y.`:                  "3 1",
		`two(x, y) :- b(x, y), x <= y.`:                 "1 1 | 1 2 | 2 3 | 4 4",
		`two(x, y) :- b(x, y), x >= y.`:                 "1 1 | 3 1 | 4 4",
		`two(x, y) :- b(x, y), x != y.`:                 "1 2 | 2 3 | 3 1",
		`two(x, y) :- b(x, y), x = y.`:                  "1 1 | 4 4",
		`one(x) :- c(_, x), x < 0.`:                     "-5",
		`one(x) :- c(_, x), -5 < x.`:                    "1 | 2",
		`one(x) :- a(x), 2 * x != x + 2.`:               "1 | 3",
		`sym(x) :- s(x), x < "b".`:                      "'' | a | ab",
		`sym(x) :- s(x), x <= "a".`:                     "'' | a",
		`sym(x) :- s(x), "a" != x.`:                     "'' | ab | b",
		`sym(x) :- s(x), x = "ab".`:                     "ab",
		`sym(x) :- s(x), s(y), y < x, "" < y.`:          "ab | b",
		`one(x) :- x = y, y = 3.`:                       "3",
		`sym(x) :- "q" = x.`:                            "q",
		`one(y) :- a(x), y = x * x - 1.`:                "0 | 3 | 8",
		`one(y) :- a(x), x + 7 = y.`:                    "8 | 9 | 10",
		`one(x) :- a(x), y = x, y < 3.`:                 "1 | 2",
		`one(x) :- a(x), y = x + 1, y = 2 * x.`:         "1",
		`one(x) :- e(x, 1, x), y = x + 1, !e(y, _, _).`: "",
		`one(1) :- 9223372036854775807 + 1 < 0.`:        "1",
		`one(x) :- x = 9223372036854775807 + 1.`:        "-9223372036854775808",
		`one(x) :- x = 0 - 9223372036854775807 - 2.`:    "9223372036854775807",
		`one(x) :- x = 9223372036854775807 * 3.`:        "9223372036854775805",
	})
}

// P11.2
func TestRunOfAggregates(t *testing.T) {
	tryRun(t, map[string]string{
		`one(n) :- n = count : { b(_, _) }.`:              "5",
		`one(n) :- n = count : { b(x, _) }.`:              "5",
		`one(n) :- n = count : { b(x, x) }.`:              "2",
		`one(n) :- n = count : { c(_, 2) }.`:              "2",
		`one(n) :- n = count : { one(_) }.`:               "0",
		`one(n) :- n = sum x : { b(x, _) }.`:              "11",
		`one(n) :- n = sum x : { one(x) }.`:               "0",
		`one(n) :- n = sum x : { b(x, x) }.`:              "5",
		`one(n) :- n = min y : { c(_, y) }.`:              "-5",
		`one(n) :- n = max y : { c(_, y) }.`:              "2",
		`one(n) :- n = max y : { c("c", y) }.`:            "-5",
		`one(n) :- n = min y : { c("a", y) }.`:            "1",
		`one(n) :- n = min x : { one(x) }.`:               "",
		`one(1) :- n = max x : { one(x) }.`:               "",
		`one(1) :- n = sum x : { one(x) }.`:               "1",
		`one(1) :- 0 = min x : { one(x) }.`:               "",
		`one(1) :- 0 = sum x : { one(x) }.`:               "1",
		`two(x, n) :- a(x), n = count : { b(x, _) }.`:     "1 2 | 2 1 | 3 1",
		`two(x, n) :- a(x), n = count : { b(x, x) }.`:     "1 1 | 2 0 | 3 0",
		`two(x, n) :- a(x), n = sum x : { b(x, _) }.`:     "1 2 | 2 2 | 3 3",
		`two(x, n) :- a(x), n = max x : { b(_, x) }.`:     "1 1 | 2 2 | 3 3",
		`two(x, n) :- a(x), n = max y : { b(y, x + 2) }.`: "1 2 | 2 4",
		`both(x, n) :- s(x), n = sum y : { c(x, y) }.`:    "'' 0 | a 3 | ab 0 | b 2",
		`both(x, n) :- s(x), n = min y : { c(x, y) }.`:    "a 1 | b 2",
		`two(x, y) :- b(x, y), y = count : { b(x, _) }.`:  "1 2 | 3 1",
		`two(x, y) :- b(x, y), y = min z : { b(x, z) }.`:  "1 1 | 2 3 | 3 1 | 4 4",
		`two(x, y) :- b(x, y), y = max z : { b(x, z) }.`:  "1 2 | 2 3 | 3 1 | 4 4",
		`one(x) :- a(x), 2 = count : { b(x, _) }.`:        "1",
		`one(x) :- a(x), x = sum x : { b(x, 1) }.`:        "1 | 3",
		`one(n) :- a(x), n = count : { e(_, x, _) }.`:     "0 | 2 | 3",
		`one(m) :- n = count : { a(_) }, m = n * n.`:      "9",
	})
}

// P11.2: numbers at their ends, in sums over rows and in columns.
func TestRunAtTheEndsOfNumbers(t *testing.T) {
	p := read(t, `.decl a(x: number) .decl b(x: number, y: number)
		b(n, m) :- n = min x : { a(x) }, m = max y : { a(y) }.
		a(n) :- n = sum x : { a(x) }.
		b(x, y) :- a(x), a(y), a(x + y).
		b(x, y) :- a(x), y = x * x.`)
	in := [][][]api.Val{{{num(math.MinInt64)}, {num(-1)}, {num(0)}, {num(math.MaxInt64)}}, nil}
	lo, hi := num(math.MinInt64), num(math.MaxInt64)
	for k, want := range [][][]api.Val{
		{{lo, hi}},
		{{num(-2)}},
		{{lo, lo}, {lo, num(-1)}, {lo, num(0)}, {lo, hi}, {num(-1), lo}, {num(-1), num(0)}, {num(0), lo}, {num(0), num(-1)}, {num(0), num(0)}, {num(0), hi}, {hi, lo}, {hi, num(0)}},
		{{lo, num(0)}, {num(-1), num(1)}, {num(0), num(0)}, {hi, num(1)}},
	} {
		if got, e := query.Run(p, of(t, p, k), in, nil); !same(got, want) || e != api.OK {
			t.Errorf("rule %d: %v, %d, not %v", k, got, e, want)
		}
	}
}

// P11.2: symbols of which one begins another one, or holds what parts values
// elsewhere, are none the same.
func TestRunOfSymbolsThatAreNearlyAlike(t *testing.T) {
	p := read(t, `.decl s(x: symbol) .decl d(x: symbol, y: symbol, z: symbol) .decl n(x: number)
		s(z) :- d(x, y, z), s(x), d(x, y, _).
		d(x, y, z) :- d(y, z, x), d(x, y, _), d(_, y, z), !d(z, y, x).
		n(c) :- s(x), s(y), c = count : { d(x, y, _) }.
		d(x, y, z) :- d(x, y, w), s(w), s(z), !d(x, y, z).`)
	parts := []string{"", "1:", "a", "1:a", "a1:a", ",", "1,", "0:", "\x00", "\x00\x00", "\xff", "2:1:", "a,", "3:a1:"}
	slices.Sort(parts)
	in := make([][][]api.Val, 3)
	for i, s := range parts {
		in[0] = append(in[0], []api.Val{sym(s)})
		for k, u := range parts {
			in[1] = append(in[1], []api.Val{sym(s), sym(u), sym(parts[(i+3*k)%len(parts)])})
		}
	}
	for k := range p.Rules {
		want := runByWords(queryByWords(p, k), in, nil)
		if got, e := query.Run(p, of(t, p, k), in, nil); !same(got, want) || e != api.OK || len(got) == 0 {
			t.Errorf("rule %d: %v, %d, not %v", k, got, e, want)
		}
	}
}

// P11.2: the step Delta goes through what is new alone, and no other step does.
func TestRunOnWhatIsNew(t *testing.T) {
	for _, c := range []struct {
		s, delta string
		wanted   []string // step by step; none, where there is no SScan
	}{
		{`one(x) :- a(x).`, "2 | 7", []string{"2 | 7"}},
		{`one(x) :- a(x).`, "", []string{""}},
		{`one(x) :- a(x), a(x).`, "2 | 7", []string{"2", "2"}},
		{`two(x, z) :- b(x, y), b(y, z).`, "5 1 | 3 1", []string{"3 1 | 3 2 | 5 1 | 5 2", "2 1"}},
		{`two(x, z) :- b(x, y), b(y, z).`, "4 9", []string{"", "4 9"}},
		{`one(x) :- b(x, x), b(x, _).`, "1 9 | 9 9", []string{"", "1"}},
		{`one(x) :- b(x, _), !b(x, x).`, "1 1 | 2 2 | 6 6", []string{"2 | 6", "-"}},
		{`two(x, n) :- n = count : { b(x, _) }, b(x, _).`, "1 1 | 6 6", []string{"1 2 | 6 0", "-"}},
		{`one(y) :- b(1, x), y = x + 1, b(y, _), y < 9.`, "1 0 | 1 2 | 2 2 | 3 5", []string{"1 | 3", "-", "-", "2 | 3"}},
	} {
		p := read(t, result+c.s)
		q := of(t, p, 0)
		for k, want := range c.wanted {
			q.Delta = k
			got, e := query.Run(p, q, facts(), rise(rows(c.delta)))
			if want == "-" {
				if got != nil || e != api.ErrArg {
					t.Errorf("%s, step %d: %v, %d", c.s, k, got, e)
				}
			} else if !same(got, rows(want)) || e != api.OK {
				t.Errorf("%s, step %d on %s: %v, %d, not %s", c.s, k, c.delta, got, e, want)
			}
		}
	}
}

// chain are as many parts of a form as there are to be, one behind the other:
// X, Y and N stand for variables of their own.
func chain(form string, n int) string {
	var l []string
	for k := range n {
		l = append(l, strings.NewReplacer("X", "x"+strconv.Itoa(k), "Y", "x"+strconv.Itoa(k+1), "N", "n"+strconv.Itoa(k)).Replace(form))
	}
	return strings.Join(l, ", ")
}

// tryInTime asks how many rows there are, and that it takes no minutes.
func tryInTime(t *testing.T, in [][][]api.Val, wanted map[string]int) {
	t.Helper()
	for s, want := range wanted {
		p := read(t, ".decl a(x: number)\n.decl b(x: number, y: number)\n"+s)
		q, begin := of(t, p, 0), time.Now()
		if got, e := query.Run(p, q, in, nil); len(got) != want || e != api.OK {
			t.Errorf("%s: %d rows, %d, not %d", s, len(got), e, want)
		}
		if took := time.Since(begin); took > 20*time.Second {
			t.Errorf("%s: %v", s, took)
		}
	}
}

// P11.2, R1: far more ways through the steps lead to the same rows than could
// be gone through one by one.
func TestRunOfManyWays(t *testing.T) {
	in := make([][][]api.Val, 2)
	for x := range int64(30) {
		in[0] = append(in[0], []api.Val{num(x)})
		for y := range int64(30) {
			in[1] = append(in[1], []api.Val{num(x), num(y)})
		}
	}
	tryInTime(t, in, map[string]int{
		"b(x0, x20) :- " + chain("b(X, Y)", 20) + ".":                            900,
		"a(x0) :- " + chain("b(X, _)", 20) + ".":                                 30,
		"a(x0) :- " + chain("b(X, N)", 20) + ".":                                 30,
		"a(x19) :- " + chain("b(X, X)", 20) + ".":                                30,
		"a(x10) :- " + chain("a(X)", 20) + ".":                                   30,
		"a(7) :- " + chain("a(X), b(_, N)", 10) + ".":                            1,
		"a(7) :- " + chain("b(X, N)", 19) + ", !b(x0, x18).":                     0,
		"a(x10) :- " + chain("b(X, Y), N = count : { b(X, _) }", 10) + ".":       30,
		"b(x9, n9) :- " + chain("b(X, _), N = X + 1", 10) + ".":                  30,
		"b(x9, n0) :- " + chain("b(X, N), X < N", 10) + ".":                      29 * 29,
		"b(x0, x10) :- " + chain("b(X, Y), N = max zN : { b(X, zN) }", 10) + ".": 900,
	})
}

// P11.2: many rows of which each look-up needs but few.
func TestRunOfManyRows(t *testing.T) {
	const n = 20000
	in := make([][][]api.Val, 2)
	for x := range int64(n) {
		in[0] = append(in[0], []api.Val{num(x)})
		in[1] = append(in[1], []api.Val{num(x), num(x + 1)})
	}
	tryInTime(t, in, map[string]int{
		"b(x, z) :- b(x, y), b(y, z).":                     n - 1,
		"b(x, z) :- b(x, y), b(z, x).":                     n - 1,
		"a(x) :- b(x, y), !b(y, _), !b(_, x - 3).":         0,
		"a(x) :- b(x, y), !b(y, _).":                       1,
		"b(x, m) :- a(x), m = count : { b(x, _) }.":        n,
		"b(x, m) :- a(x), m = max y : { b(y, x) }.":        n - 1,
		"b(x, y) :- b(x, y), y = sum z : { b(x, z) }.":     n,
		"a(x) :- a(x), b(_, _), a(y).":                     n,
		"a(z) :- a(x), b(x, y), b(y, z).":                  n - 1,
		"a(x) :- a(x), b(x, x + 1), b(x + 1, y), y < 100.": 98,
	})
}
