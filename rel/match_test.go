package rel_test

import (
	"math"
	"testing"

	"sorites/api"
	"sorites/rel"
)

// table has rows that neither rise nor are of one length, some twice.
func table() [][]api.Val {
	return [][]api.Val{
		row(2, "a", 3),
		row(1, "a"),
		row(),
		row(1, "b", 3),
		row("a", "a"),
		row(1, "a"),
		row(1),
		row(0, "1", 1),
	}
}

// P8.3: the places of the rows that match.
func TestMatch(t *testing.T) {
	for _, c := range []struct {
		cols []int
		vals []api.Val
		want []int
	}{
		// no columns: all rows
		{nil, nil, []int{0, 1, 2, 3, 4, 5, 6, 7}},
		{[]int{}, []api.Val{}, []int{0, 1, 2, 3, 4, 5, 6, 7}},

		{[]int{0}, row(1), []int{1, 3, 5, 6}},
		{[]int{0}, row(2), []int{0}},
		{[]int{0}, row("a"), []int{4}},
		{[]int{0}, row(0), []int{7}},
		{[]int{0}, row("1"), nil},
		{[]int{1}, row("a"), []int{0, 1, 4, 5}},
		{[]int{1}, row("1"), []int{7}},
		{[]int{1}, row(1), nil},
		{[]int{1}, row(""), nil},
		{[]int{2}, row(3), []int{0, 3}},
		{[]int{2}, row(0), nil},

		// all of them
		{[]int{0, 1}, row(1, "a"), []int{1, 5}},
		{[]int{1, 0}, row("a", 1), []int{1, 5}},
		{[]int{1, 0}, row(1, "a"), nil},
		{[]int{2, 0, 1}, row(3, 1, "b"), []int{3}},
		{[]int{0, 1, 2}, row(1, "a", 3), nil},
		{[]int{1, 2}, row("a", 3), []int{0}},

		// a column twice
		{[]int{0, 0}, row(1, 1), []int{1, 3, 5, 6}},
		{[]int{0, 0}, row(1, 2), nil},
		{[]int{0, 0}, row(2, 1), nil},

		// places that only one of both has
		{[]int{0, 1}, row(1), []int{1, 3, 5, 6}},
		{[]int{0, -1}, row(1), []int{1, 3, 5, 6}},
		{[]int{0}, row(1, "a"), []int{1, 3, 5, 6}},
		{[]int{-1, 7}, nil, []int{0, 1, 2, 3, 4, 5, 6, 7}},
		{nil, row(1, "a"), []int{0, 1, 2, 3, 4, 5, 6, 7}},

		// columns that no row has
		{[]int{-1}, row(1), nil},
		{[]int{3}, row(0), nil},
		{[]int{0, 3}, row(1, 0), nil},
		{[]int{0, -1}, row(1, 0), nil},
		{[]int{-1, 0}, row(1, 1), nil},
		{[]int{math.MaxInt}, row(1), nil},
		{[]int{math.MinInt}, row(1), nil},
		{[]int{1 << 32}, row(1), nil},

		// held as Compare holds them
		{[]int{0}, []api.Val{{N: 1, S: "x"}}, []int{1, 3, 5, 6}},
		{[]int{0}, []api.Val{{Sym: true, S: "a", N: 9}}, []int{4}},
	} {
		var want [][]api.Val
		for _, k := range c.want {
			want = append(want, table()[k])
		}
		if got := rel.Match(table(), c.cols, c.vals); !sameRows(got, want) {
			t.Errorf("%v, %v: %v, not %v", c.cols, c.vals, got, want)
		}
	}
}

// P8.3
func TestMatchOfNoRows(t *testing.T) {
	if got := rel.Match(nil, nil, nil); len(got) != 0 {
		t.Errorf("%v", got)
	}
	if got := rel.Match([][]api.Val{}, []int{0}, row(1)); len(got) != 0 {
		t.Errorf("%v", got)
	}
}

// P8.3
func TestMatchFindsEachRow(t *testing.T) {
	for _, r := range rising() {
		var cols []int
		for k := range r {
			cols = append(cols, k)
		}
		var want [][]api.Val
		for _, x := range rising() {
			if len(x) >= len(r) && rel.Compare(x[:len(r)], r) == 0 {
				want = append(want, x)
			}
		}
		if got := rel.Match(rising(), cols, r); !sameRows(got, want) {
			t.Errorf("%v: %v", r, got)
		}
	}
}
