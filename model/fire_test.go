package model_test

import (
	"math"
	"strings"
	"testing"

	"sorites/api"
	"sorites/model"
)

// What is tried here has these rows: edges, numbers, symbols with numbers,
// great numbers, and none; and relations for what is given.
const relations = `.decl e(a: number, b: number)
.decl n(a: number)
.decl s(a: symbol, b: number)
.decl g(a: number)
.decl none(a: number)
.decl one(a: number)
.decl two(a: number, b: number)
.decl sym(a: symbol)
.decl both(a: symbol, b: number)
`

func given() [][][]api.Val {
	return all("1 1 | 1 2 | 2 3 | 3 1 | 4 4", "1 | 2 | 3", "a 1 | a 2 | b 2 | c -5",
		"-9223372036854775808 | -1 | 9223372036854775807", "", "8", "8 8", "z", "z 8")
}

// tryFire writes `min` and `max` for the ends of numbers.
func tryFire(t *testing.T, of map[string]string) {
	t.Helper()
	ends := strings.NewReplacer("min", "-9223372036854775808", "max", "9223372036854775807")
	for rule, want := range of {
		got, e := model.Fire(read(t, relations+rule), 0, given())
		if !same(got, rows(ends.Replace(want))) || e != api.OK {
			t.Errorf("%s: %v, %d, not %s", rule, got, e, want)
		}
	}
}

// P9.1
func TestFireOfAtoms(t *testing.T) {
	tryFire(t, map[string]string{
		"one(7).":                      "7",
		"two(7, -9).":                  "7 -9",
		"both(\"q\", 0).":              "q 0",
		"one(x) :- n(x).":              "1 | 2 | 3",
		"one(x) :- one(x).":            "8",
		"one(x) :- none(x).":           "",
		"one(x) :- e(x, _).":           "1 | 2 | 3 | 4",
		"one(1) :- e(_, _).":           "1",
		"one(1) :- none(_).":           "",
		"one(x) :- e(x, x).":           "1 | 4",
		"one(x) :- e(x, 1).":           "1 | 3",
		"two(y, x) :- e(x, y).":        "1 1 | 1 3 | 2 1 | 3 2 | 4 4",
		"two(x, x) :- e(_, x).":        "1 1 | 2 2 | 3 3 | 4 4",
		"two(x, 5) :- n(x).":           "1 5 | 2 5 | 3 5",
		"sym(x) :- s(x, _).":           "a | b | c",
		"sym(x) :- s(x, 2).":           "a | b",
		"one(x) :- s(\"a\", x).":       "1 | 2",
		"one(x) :- s(\"d\", x).":       "",
		"sym(\"k\") :- s(_, -5).":      "k",
		"both(x, y) :- s(x, y), n(y).": "a 1 | a 2 | b 2",

		// one by another one
		"two(x, z) :- e(x, y), e(y, z).":              "1 1 | 1 2 | 1 3 | 2 1 | 3 1 | 3 2 | 4 4",
		"two(x, y) :- n(x), n(y).":                    "1 1 | 1 2 | 1 3 | 2 1 | 2 2 | 2 3 | 3 1 | 3 2 | 3 3",
		"one(x) :- e(x, y), e(y, z), e(z, x).":        "1 | 2 | 3 | 4",
		"one(y) :- e(x, y), e(y, z), e(z, x), x < y.": "2 | 3",
		"two(x, y) :- e(x, y), e(y, x).":              "1 1 | 4 4",
		"one(x) :- e(x, _), none(_).":                 "",
		"one(x) :- e(x, _), n(_).":                    "1 | 2 | 3 | 4",
		"one(x) :- n(_), e(x, _), e(_, x), n(x).":     "1 | 2 | 3",
		"one(x) :- n(y), n(x), none(y).":              "",
		"both(x, y) :- s(x, z), n(z), e(z, y).":       "a 1 | a 2 | a 3 | b 3",
	})
}

// P9.1
func TestFireOfSums(t *testing.T) {
	tryFire(t, map[string]string{
		"two(x, y) :- n(x), n(y), e(y, x + 1).":    "1 1 | 2 2",
		"one(x) :- n(x), n(x + 1).":                "1 | 2",
		"one(x) :- n(x), n(4 - x).":                "1 | 2 | 3",
		"one(x) :- n(x), e(x * 1, 3 * x - 3 + 1).": "1",
		"two(x, y) :- e(x - 1, y), n(x).":          "2 1 | 2 2 | 3 3",
		"two(x, y) :- e(x + y, y), n(x), n(y).":    "2 1",
		"one(1) :- n(1 + 1).":                      "1",
		"one(1) :- n(1 - 1).":                      "",

		// which go round
		"one(x) :- g(x), g(x + 1).":              "max",
		"one(x) :- g(x), g(x - 1).":              "min",
		"one(x) :- g(x), g(0 - x).":              "min",
		"one(x) :- g(x), g(x * x).":              "",
		"one(x) :- g(x), n(x * x).":              "-1 | max",
		"two(x, y) :- g(x), g(y), g(x + y).":     "min -1 | min max | -1 min | max min",
		"one(y) :- g(x), y = x + x.":             "-2 | 0",
		"one(y) :- g(x), y = x * 3.":             "min | -3 | 9223372036854775805",
		"one(x) :- g(x), x > 1 + 2 * x.":         "max",
		"one(1) :- 9223372036854775807 + 1 < 0.": "1",
	})
}

// P9.1
func TestFireOfTermsHeld(t *testing.T) {
	tryFire(t, map[string]string{
		"two(x, y) :- e(x, y), x < y.":                "1 2 | 2 3",
		"two(x, y) :- e(x, y), x > y.":                "3 1",
		"two(x, y) :- e(x, y), x <= y.":               "1 1 | 1 2 | 2 3 | 4 4",
		"two(x, y) :- e(x, y), x >= y.":               "1 1 | 3 1 | 4 4",
		"two(x, y) :- e(x, y), x != y.":               "1 2 | 2 3 | 3 1",
		"two(x, y) :- e(x, y), x = y.":                "1 1 | 4 4",
		"one(x) :- g(x), x < 0.":                      "min | -1",
		"one(x) :- g(x), x <= -1.":                    "min | -1",
		"one(x) :- g(x), 0 <= x.":                     "max",
		"one(x) :- n(x), 2 * x != x + 2, x + 1 <= 3.": "1",
		"one(x) :- n(x), 1 = 2.":                      "",
		"one(x) :- n(x), 1 = 1.":                      "1 | 2 | 3",
		"one(1) :- 2 < 3, 3 <= 3.":                    "1",

		// symbols
		"sym(x) :- s(x, _), s(y, _), x < y.": "a | b",
		"sym(x) :- s(x, _), x < \"b\".":      "a",
		"sym(x) :- s(x, _), x <= \"b\".":     "a | b",
		"sym(x) :- s(x, _), x != \"b\".":     "a | c",
		"sym(x) :- s(x, _), x = \"b\".":      "b",
		"sym(x) :- s(x, _), \"\" < x.":       "a | b | c",
		"sym(x) :- s(x, _), x < \"aa\".":     "a",
		"one(1) :- \"b\" < \"a\".":           "",
		"one(1) :- \"b\" != \"a\".":          "1",
		"one(1) :- \"a\" < \"\\xff\".":       "1",

		// of what is bound by them
		"one(x) :- x = 5.":                         "5",
		"one(x) :- 5 = x.":                         "5",
		"sym(x) :- x = \"q\".":                     "q",
		"one(x) :- x = y, y = 3.":                  "3",
		"one(y) :- n(x), y = x * x - 1.":           "0 | 3 | 8",
		"one(y) :- n(x), x + 7 = y.":               "8 | 9 | 10",
		"one(z) :- y = x + 1, z = y * y, n(x).":    "4 | 9 | 16",
		"one(x) :- n(x), x = 2.":                   "2",
		"one(x) :- n(x), x = 7.":                   "",
		"one(x) :- n(x), x + 0 = 2.":               "2",
		"one(x) :- n(x), n(y), x = y + 1.":         "2 | 3",
		"one(x) :- n(x), y = x, y < 3.":            "1 | 2",
		"one(x) :- n(x), y = x + 1, y = 2 * x.":    "1",
		"two(x, y) :- n(x), y = x - 2, y + x = 0.": "1 -1",
		"one(x) :- y = x + 1, n(x), y < 3.":        "1",
		"sym(y) :- s(x, 2), y = x, \"a\" != y.":    "b",
	})
}

// P9.1
func TestFireOfWhatMustNotBe(t *testing.T) {
	tryFire(t, map[string]string{
		"one(x) :- n(x), !e(x, x).":                 "2 | 3",
		"one(x) :- n(x), !e(_, x).":                 "",
		"one(x) :- e(x, _), !n(x).":                 "4",
		"one(x) :- n(x), !none(_).":                 "1 | 2 | 3",
		"one(x) :- n(x), !none(x).":                 "1 | 2 | 3",
		"one(x) :- n(x), !n(_).":                    "",
		"one(1) :- !none(_).":                       "1",
		"one(1) :- !n(7).":                          "1",
		"one(1) :- !n(2).":                          "",
		"one(x) :- n(x), !n(x + 1).":                "3",
		"one(x) :- n(x), !e(x, x + 1).":             "3",
		"one(x) :- n(x), !e(x, y), y = 1.":          "2",
		"one(x) :- g(x), !g(x + 1).":                "min | -1",
		"sym(x) :- s(x, _), !s(x, 2).":              "c",
		"sym(x) :- s(x, _), !s(\"a\", _).":          "",
		"sym(x) :- s(x, _), !s(\"d\", _), !n(4).":   "a | b | c",
		"two(x, y) :- n(x), n(y), !e(x, y), x < y.": "1 3",
		"one(x) :- !one(x), n(x).":                  "1 | 2 | 3",
	})
}

// P9.1
func TestFireOfAggregates(t *testing.T) {
	tryFire(t, map[string]string{
		"one(c) :- c = count : { e(_, _) }.":           "5",
		"one(c) :- c = count : { e(x, _) }.":           "5",
		"one(c) :- c = count : { e(x, x) }.":           "2",
		"one(c) :- c = count : { e(1, _) }.":           "2",
		"one(c) :- c = count : { s(_, 2) }.":           "2",
		"one(c) :- c = count : { s(\"a\", _) }.":       "2",
		"one(c) :- c = count : { e(1 + 2, _) }.":       "1",
		"one(c) :- c = count : { none(_) }.":           "0",
		"one(c) :- c = sum x : { e(x, _) }.":           "11",
		"one(c) :- c = sum y : { e(_, y) }.":           "11",
		"one(c) :- c = sum x : { e(x, 1) }.":           "4",
		"one(c) :- c = sum x : { e(x, x) }.":           "5",
		"one(c) :- c = sum x : { g(x) }.":              "-2",
		"one(c) :- c = sum x : { none(x) }.":           "0",
		"one(c) :- c = min x : { n(x) }.":              "1",
		"one(c) :- c = max x : { n(x) }.":              "3",
		"one(c) :- c = min x : { g(x) }.":              "min",
		"one(c) :- c = max x : { g(x) }.":              "max",
		"one(c) :- c = min y : { s(_, y) }.":           "-5",
		"one(c) :- c = max y : { s(_, y) }.":           "2",
		"one(c) :- c = max y : { s(\"c\", y) }.":       "-5",
		"one(c) :- c = min y : { s(\"a\", y) }.":       "1",
		"one(c) :- c = max y : { e(y, y) }.":           "4",
		"one(c) :- c = min x : { none(x) }.":           "",
		"one(c) :- c = max x : { none(x) }.":           "",
		"one(1) :- c = max x : { none(x) }.":           "",
		"one(1) :- c = sum x : { none(x) }.":           "1",
		"one(x) :- n(x), c = max y : { s(\"d\", y) }.": "",
		"one(z) :- c = count : { n(_) }, z = c * c.":   "9",
	})
}

// P9.1
func TestFireOfAggregatesWithOuterVariables(t *testing.T) {
	tryFire(t, map[string]string{
		"two(x, c) :- n(x), c = count : { e(x, _) }.":                          "1 2 | 2 1 | 3 1",
		"two(x, c) :- n(x), c = count : { e(_, _) }.":                          "1 5 | 2 5 | 3 5",
		"two(x, c) :- n(x), c = count : { e(x, x) }.":                          "1 1 | 2 0 | 3 0",
		"two(x, c) :- n(x), c = count : { e(x + 1, _) }.":                      "1 1 | 2 1 | 3 1",
		"two(x, c) :- n(x), c = count : { e(_, x * 2) }.":                      "1 1 | 2 1 | 3 0",
		"two(x, c) :- n(x), c = max y : { e(y, x) }.":                          "1 3 | 2 1 | 3 2",
		"two(x, c) :- n(x), c = max y : { e(y, x + 2) }.":                      "1 2 | 2 4",
		"two(x, c) :- n(x), c = sum y : { s(_, y) }, y = x.":                   "1 1 | 2 4 | 3 0",
		"both(x, c) :- s(x, _), c = count : { s(x, _) }.":                      "a 2 | b 1 | c 1",
		"both(x, c) :- s(x, _), c = sum y : { s(x, y) }.":                      "a 3 | b 2 | c -5",
		"two(x, c) :- e(x, y), c = count : { e(y, _) }.":                       "1 1 | 1 2 | 2 1 | 3 2 | 4 1",
		"two(a, b) :- n(y), a = count : { e(y, _) }, b = count : { e(_, y) }.": "1 1 | 2 2",
		"two(x, c) :- n(x), c = count : { e(x, y) }, y = 1.":                   "1 1 | 2 0 | 3 1",

		// of what is bound
		"two(x, c) :- n(x), c = sum x : { e(x, _) }.":     "1 2 | 2 2 | 3 3",
		"two(x, c) :- n(x), c = max x : { e(_, x) }.":     "1 1 | 2 2 | 3 3",
		"two(x, c) :- n(x), c = min x : { s(\"b\", x) }.": "2 2",
		"two(x, c) :- n(x), c = sum x : { e(_, x + 1) }.": "1 1 | 2 2 | 3 3",
		"one(x) :- n(x), x = sum x : { e(x, 1) }.":        "1 | 3",

		// held against what is bound, and against numbers
		"two(x, y) :- e(x, y), y = count : { e(x, _) }.":                  "1 2 | 3 1",
		"two(x, y) :- e(x, y), y = sum z : { e(x, z) }.":                  "2 3 | 3 1 | 4 4",
		"two(x, y) :- e(x, y), y = min z : { e(x, z) }.":                  "1 1 | 2 3 | 3 1 | 4 4",
		"two(x, y) :- e(x, y), y = max z : { e(x, z) }.":                  "1 2 | 2 3 | 3 1 | 4 4",
		"one(x) :- n(x), 2 = count : { e(x, _) }.":                        "1",
		"one(x) :- n(x), 1 = count : { e(x, _) }.":                        "2 | 3",
		"one(x) :- n(x), 0 = count : { e(x, x) }.":                        "2 | 3",
		"one(x) :- n(x), 0 = sum y : { none(y) }.":                        "1 | 2 | 3",
		"one(x) :- n(x), 0 = min y : { none(y) }.":                        "",
		"one(x) :- n(x), x = count : { e(_, _) }.":                        "",
		"one(x) :- n(x), x = count : { e(1, _) }.":                        "2",
		"one(x) :- n(x), 3 = max y : { n(y) }, -5 = min z : { s(_, z) }.": "1 | 2 | 3",
	})
}

// P9.1: the first error that the promise names is told.
func TestFireOfWrongThings(t *testing.T) {
	const right = ".decl a(x: number)\na(x) :- a(x).\na(1).\n"
	many := []int{-1, 2, 3, math.MinInt, math.MaxInt}
	for _, in := range [][][][]api.Val{all("1"), all("a"), nil} {
		for s, want := range map[string]api.Errno{
			right + ".decl a(y: number)":      api.ErrTwice,
			right + "b(1).":                   api.ErrNoRel,
			right + "a(1, 2).":                api.ErrArity,
			right + "a(\"s\").":               api.ErrType,
			right + "a(x) :- a(y).":           api.ErrUnsafe,
			right + "a(x) :- a(y), !a(x).":    api.ErrUnsafe,
			right + "a(y) :- a(x), y < 3.":    api.ErrUnsafe,
			right + "a(1) :- a(x), x = \"\".": api.ErrType,
		} {
			for _, k := range append(many, 0, 1) {
				if l, e := model.Fire(read(t, s), k, in); l != nil || e != want {
					t.Errorf("%q %d: %v, %d", s, k, l, e)
				}
			}
		}
		for _, k := range many {
			if l, e := model.Fire(read(t, right), k, in); l != nil || e != api.ErrArg {
				t.Errorf("%d: %v, %d", k, l, e)
			}
		}
	}
	if l, e := model.Fire(api.Prog{}, 0, nil); l != nil || e != api.ErrArg {
		t.Errorf("no rules: %v, %d", l, e)
	}
	for _, in := range [][][][]api.Val{nil, all("a"), all("1", "1"), all("2 | 1"), all("1 1")} {
		for k := range 2 {
			if l, e := model.Fire(read(t, right), k, in); l != nil || e != api.ErrFacts {
				t.Errorf("%v: %v, %d", in, l, e)
			}
		}
	}
}

// P9.1: a rule by itself gives rows though its program is not layered, and
// gives them once: not what comes of them.
func TestFireOfProgramsThatAreNotLayered(t *testing.T) {
	for s, want := range map[string]string{
		"a(x) :- b(x), !a(x).":                "2",
		"a(y) :- a(x), y = x + 1.":            "2 | 4",
		"a(c) :- a(c), c = sum x : { a(x) }.": "",
		"a(c) :- c = sum x : { a(x) }.":       "4",
		"a(c) :- c = count : { a(_) }.":       "2",
	} {
		p := read(t, ".decl a(x: number) .decl b(x: number) a(9). b(x) :- a(x).\n"+s)
		if got, e := model.Fire(p, 2, all("1 | 3", "1 | 2")); !same(got, rows(want)) || e != api.OK {
			t.Errorf("%s: %v, %d, not %s", s, got, e, want)
		}
		if got, e := model.Fire(p, 1, all("1 | 3", "1 | 2")); !same(got, rows("1 | 3")) || e != api.OK {
			t.Errorf("%v, %d", got, e)
		}
	}
}
