package rel_test

import (
	"cmp"
	"math"
	"slices"
	"strconv"
	"testing"

	"sorites/api"
	"sorites/rel"
)

func num(n int64) api.Val { return api.Val{N: n} }

func sym(s string) api.Val { return api.Val{Sym: true, S: s} }

// row has numbers for ints and symbols for texts.
func row(values ...any) []api.Val {
	var l []api.Val
	for _, v := range values {
		if s, ok := v.(string); ok {
			l = append(l, sym(s))
		} else {
			l = append(l, num(int64(v.(int))))
		}
	}
	return l
}

// rows are of letters: each letter is a row of its symbol.
func rows(letters string) [][]api.Val {
	var l [][]api.Val
	for _, c := range letters {
		l = append(l, row(string(c)))
	}
	return l
}

func sameRows(a, b [][]api.Val) bool {
	return slices.EqualFunc(a, b, func(x, y []api.Val) bool { return slices.Equal(x, y) })
}

// rising are rows that rise.
func rising() [][]api.Val {
	return [][]api.Val{
		row(),
		row(math.MinInt64),
		row(math.MinInt64, math.MinInt64),
		row(math.MinInt64, ""),
		row(math.MinInt64 + 1),
		row(-10),
		row(-9),
		row(-1),
		row(0),
		row(0, math.MinInt64),
		row(0, 0),
		row(0, 0, 0, 0, 0, 0, 0, 0),
		row(0, 0, 0, 0, 0, 0, 0, 1),
		row(0, 0, 0, 0, 0, 0, 0, ""),
		row(0, 1),
		row(0, "a"),
		row(1),
		row(1, "a"),
		row(1, "a", 0),
		row(1, "b"),
		row(2),
		row(9),
		row(10),
		row(1 << 32),
		row(math.MaxInt64),
		row(math.MaxInt64, "\xff\xff"),
		row(""),
		row("", math.MinInt64),
		row("", ""),
		row("\x00"),
		row("\x00\x00"),
		row("-1"),
		row("1"),
		row("10"),
		row("9"),
		row("A"),
		row("Z"),
		row("a"),
		row("a", 0),
		row("a", "\xff"),
		row("a\x00"),
		row("aa"),
		row("ab"),
		row("b"),
		row("z"),
		row("\x7f"),
		row("\x80"),
		row("\xc3"),
		row("é"),
		row("\xef\xbf\xbf"),
		row("\xf0\x90\x80\x80"),
		row("\xff"),
		row("\xff\x00"),
	}
}

// P8.1
func TestCompare(t *testing.T) {
	l, again := rising(), rising()
	for i, a := range l {
		for k, b := range again {
			if got := rel.Compare(a, b); got != cmp.Compare(i, k) {
				t.Errorf("%v, %v: %d", a, b, got)
			}
		}
	}
}

// P8.1: of a number N alone counts, of a symbol S alone.
func TestCompareLeavesTheOtherFieldAside(t *testing.T) {
	for _, c := range []struct {
		a, b api.Val
		want int
	}{
		{api.Val{N: 1, S: "b"}, api.Val{N: 1, S: "a"}, 0},
		{api.Val{N: 1, S: "b"}, api.Val{N: 1}, 0},
		{api.Val{N: 1, S: "b"}, api.Val{N: 2, S: "a"}, -1},
		{api.Val{Sym: true, S: "a", N: 2}, api.Val{Sym: true, S: "a", N: 1}, 0},
		{api.Val{Sym: true, S: "a", N: 2}, api.Val{Sym: true, S: "a"}, 0},
		{api.Val{Sym: true, S: "a", N: 2}, api.Val{Sym: true, S: "b", N: 1}, -1},
		{api.Val{N: 2, S: "b"}, api.Val{Sym: true, S: "a", N: 1}, -1},
		{api.Val{N: 1, S: "a"}, api.Val{Sym: true, S: "a", N: 1}, -1},
	} {
		for _, ahead := range [][]api.Val{nil, row(7, "x")} {
			a, b := append(slices.Clone(ahead), c.a), append(slices.Clone(ahead), c.b)
			if got, back := rel.Compare(a, b), rel.Compare(b, a); got != c.want || back != -c.want {
				t.Errorf("%v, %v: %d, %d, not %d", a, b, got, back, c.want)
			}
		}
	}
}

// R3
func TestCompareOfNoValues(t *testing.T) {
	if rel.Compare(nil, nil) != 0 || rel.Compare(nil, []api.Val{}) != 0 || rel.Compare([]api.Val{}, nil) != 0 {
		t.Error("nil and empty rows are one")
	}
}

// P8.1
func TestRise(t *testing.T) {
	for letters, want := range map[string]bool{
		"": true, "a": true, "ab": true, "abc": true, "acz": true,
		"aa": false, "ba": false, "aab": false, "abb": false, "abca": false, "bac": false, "acb": false, "cba": false, "abab": false,
	} {
		if rel.Rise(rows(letters)) != want {
			t.Errorf("%q: %v", letters, !want)
		}
	}
}

// P8.1: it is each one's turn to be out of place.
func TestRiseOfAllKinds(t *testing.T) {
	if !rel.Rise(rising()) || !rel.Rise([][]api.Val{{}}) || !rel.Rise([][]api.Val{nil, row(0)}) {
		t.Error("what rises")
	}
	for i := range rising()[1:] {
		l := rising()
		l[i], l[i+1] = l[i+1], l[i]
		if rel.Rise(l) {
			t.Errorf("%v ahead of %v", l[i], l[i+1])
		}
		l[i] = l[i+1]
		if rel.Rise(l) {
			t.Errorf("%v twice", l[i])
		}
	}
	for _, l := range [][][]api.Val{
		{nil, {}},
		{row(0), nil},
		{{{N: 1, S: "a"}}, {{N: 1, S: "b"}}},
		{{{Sym: true, S: "a", N: 1}}, {{Sym: true, S: "a", N: 2}}},
	} {
		if rel.Rise(l) {
			t.Errorf("%v", l)
		}
	}
}

// P8.1
func TestSort(t *testing.T) {
	for letters, want := range map[string]string{
		"": "", "a": "a", "ab": "ab", "ba": "ab", "aa": "a", "aaaa": "a", "cab": "abc", "abcabc": "abc",
		"zyxwvutsrqponmlkjihgfedcba": "abcdefghijklmnopqrstuvwxyz", "abracadabra": "abcdr",
	} {
		if got := rel.Sort(rows(letters)); !sameRows(got, rows(want)) {
			t.Errorf("%q: %v", letters, got)
		}
	}
}

// P8.1
func TestSortOfAllKinds(t *testing.T) {
	l := append(rising(), rising()...)
	slices.Reverse(l)
	if got := rel.Sort(l); !sameRows(got, rising()) {
		t.Errorf("%v", got)
	}
	if got := rel.Sort([][]api.Val{{}, nil, {}}); len(got) != 1 || len(got[0]) != 0 {
		t.Errorf("rows of no values: %v", got)
	}
}

// P8.1: of rows that are the same to Compare the first one is left.
func TestSortOfNumbersWithTexts(t *testing.T) {
	var l [][]api.Val
	for i := range 100 {
		l = append(l, []api.Val{{N: int64(i * 7 % 5), S: strconv.Itoa(i)}})
	}
	want := [][]api.Val{{{N: 0, S: "0"}}, {{N: 1, S: "3"}}, {{N: 2, S: "1"}}, {{N: 3, S: "4"}}, {{N: 4, S: "2"}}}
	if got := rel.Sort(l); !sameRows(got, want) {
		t.Errorf("%v", got)
	}
}

// P8.4
func TestSortLeavesWhatRises(t *testing.T) {
	for n := range rising() {
		if got := rel.Sort(rising()[:n]); !sameRows(got, rising()[:n]) {
			t.Errorf("%d: %v", n, got)
		}
	}
}

// R5: many rows are no trouble.
func TestManyRows(t *testing.T) {
	const n = 200000
	var l [][]api.Val
	for i := range n {
		l = append(l, row(i*7919%n), row(i))
	}
	l = rel.Sort(l)
	if len(l) != n || !rel.Rise(l) || l[0][0].N != 0 || l[n-1][0].N != n-1 {
		t.Errorf("%d rows", len(l))
	}
	both, e := rel.Union(l[:n/2], l[n/4:])
	if len(both) != n || e != api.OK {
		t.Errorf("Union: %d rows, %d", len(both), e)
	}
	left, e := rel.Minus(l, l[n/4:])
	if len(left) != n/4 || e != api.OK {
		t.Errorf("Minus: %d rows, %d", len(left), e)
	}
}
