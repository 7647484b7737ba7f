package cover_test

import (
	"math"
	"slices"
	"testing"

	"sorites/api"
	"sorites/cover"
)

// tryOrders holds the orders against all that is said of them, but for how few
// they are.
func tryOrders(t *testing.T, cols int, sets [][]int) int {
	t.Helper()
	least, e := cover.Least(cols, sets)
	orders, f := cover.Orders(cols, sets)
	if e != api.OK || f != api.OK || len(orders) != least || least < 1 {
		t.Fatalf("%d, %v: %d, %d, %v, %d", cols, sets, least, e, orders, f)
	}
	for _, order := range orders {
		rising := slices.Sorted(slices.Values(order))
		if len(rising) != cols || rising[0] != 0 || rising[cols-1] != cols-1 || len(slices.Compact(rising)) != cols {
			t.Fatalf("%d, %v: the order %v", cols, sets, order)
		}
	}
	for _, set := range sets {
		if !slices.ContainsFunc(orders, func(order []int) bool { return servesByWords(order, set) }) {
			t.Fatalf("%d, %v: none of %v serves %v", cols, sets, orders, set)
		}
		if k, ok := cover.Which(orders, set); !ok || !servesByWords(orders[k], set) {
			t.Fatalf("%d, %v: %d, %v of %v serves %v", cols, sets, k, ok, orders, set)
		}
	}
	return least
}

// ofSize are all sets of so many of some columns.
func ofSize(cols int, sizes ...int) [][]int {
	var l [][]int
	for s := range 1 << cols {
		if set := setOf(s); slices.Contains(sizes, len(set)) {
			l = append(l, set)
		}
	}
	return l
}

// setOf are the columns whose bits are set.
func setOf(s int) []int {
	var set []int
	for c := range api.MaxCols {
		if s>>c&1 == 1 {
			set = append(set, c)
		}
	}
	return set
}

// P12.2, P12.3
func TestLeast(t *testing.T) {
	for _, x := range []struct {
		cols int
		sets [][]int
		want int
	}{
		{1, nil, 1}, {3, nil, 1}, {8, nil, 1}, {3, [][]int{}, 1},
		{1, lists("0"), 1}, {8, lists("7"), 1}, {8, lists("0 1 2 3 4 5 6 7"), 1},
		{3, lists("0|0 1|0 1 2"), 1}, {3, lists("0 1 2|0 1|0"), 1}, {3, lists("0 1|0|0 1 2"), 1}, {3, lists("2|0 2|0 1 2"), 1}, {3, lists("1|0 1 2"), 1},
		{2, lists("0|1"), 2}, {3, lists("0|1|0 1"), 2}, {3, lists("0|1|2"), 3}, {3, lists("0 1|0 2|1 2"), 3},
		{3, lists("0|1|0 1|1 2"), 2}, {3, lists("0 1|0 2|1 2|0"), 3}, {3, lists("0|1|0 1|0 2"), 2}, {3, lists("0|1 2"), 2},
		// one may be laid onto several, and several may be laid onto one
		{3, lists("0|0 1|0 2"), 2}, {3, lists("0|1|0 1|0 2|0 1 2"), 2}, {4, lists("0|1|0 1|0 2|1 3"), 3}, {4, lists("0 1|0|1|0 2|1 3|0 1 2 3"), 3},
		// who came first has to move away, once, twice, thrice
		{3, lists("0 1|0 2|0|1"), 2}, {4, lists("0 1|0 2|1 2|0|1|2"), 3}, {5, lists("0 1|1 2|2 3|3 4|4|3|2|1"), 4}, {5, lists("0 1|1 2|2 3|3 4|0|1|2|3"), 4},
		{8, ofSize(8, 1), 8}, {8, ofSize(8, 1, 7), 8}, {8, ofSize(8, 1, 2), 28}, {8, ofSize(8, 2, 6), 28}, {7, ofSize(7, 2, 3), 35}, {8, ofSize(8, 4)[:60], 60}, {5, ofSize(5, 1, 2, 3, 4, 5), 10}, {4, ofSize(4, 1, 2, 3, 4), 6},
		{8, lists("0|0 1|0 1 2|0 1 2 3|0 1 2 3 4|0 1 2 3 4 5|0 1 2 3 4 5 6|0 1 2 3 4 5 6 7"), 1},
	} {
		for range 2 {
			if got := tryOrders(t, x.cols, x.sets); got != x.want {
				t.Errorf("%d, %v: %d, not %d", x.cols, x.sets, got, x.want)
			}
			x.sets = slices.Clone(x.sets)
			slices.Reverse(x.sets)
		}
	}
}

func tryNone(t *testing.T, cols int, sets [][]int) {
	t.Helper()
	if n, e := cover.Least(cols, sets); n != 0 || e != api.ErrCover {
		t.Errorf("%d, %v: %d, %d", cols, sets, n, e)
	}
	if l, e := cover.Orders(cols, sets); len(l) != 0 || e != api.ErrCover {
		t.Errorf("%d, %v: %v, %d", cols, sets, l, e)
	}
}

// P12.2
func TestColumnsThatCannotBe(t *testing.T) {
	for _, cols := range []int{0, 9, -1, 10, 64, -8, math.MinInt, math.MaxInt, 1 << 32, 1<<32 + 1} {
		for _, sets := range []string{"", "0", "0|0 1", "1", "0|0", " "} {
			tryNone(t, cols, lists(sets))
		}
	}
	for cols := 1; cols <= api.MaxCols; cols++ {
		if n := tryOrders(t, cols, nil); n != 1 {
			t.Errorf("%d: %d", cols, n)
		}
		tryOrders(t, cols, [][]int{{cols - 1}})
		tryNone(t, cols, [][]int{{cols}})
		tryNone(t, cols, [][]int{{0, cols}})
	}
}

// P12.2: a set that can't be is found behind and ahead of those that can.
func TestSetsThatCannotBe(t *testing.T) {
	none := [][]int{
		{}, nil, {-1}, {3}, {4}, {8}, {63}, {64}, {65}, {math.MinInt}, {math.MaxInt}, {1 << 32}, {1<<32 + 1},
		{1, 0}, {2, 1}, {2, 0, 1}, {0, 2, 1}, {0, 0}, {1, 1}, {2, 2}, {0, 1, 1}, {0, 1, 2, 2}, {0, 1, 2, 0},
		{-1, 0}, {-1, 0, 1}, {math.MinInt, 0}, {0, 3}, {0, 1, 2, 3}, {0, math.MaxInt}, {0, 64}, {1, 64}, {0, -64}, {0, math.MinInt},
		make([]int, 100000),
	}
	for _, set := range none {
		tryNone(t, 3, [][]int{set})
		tryNone(t, 3, [][]int{{0}, {1, 2}, set})
		tryNone(t, 3, [][]int{set, {0}, {1, 2}})
		tryNone(t, 3, [][]int{{0}, set, {1, 2}, set})
	}
	for _, sets := range []string{"0|0", "0|1|0", "0 1|1|0 1", "0 1 2|0|1|2|0 1|0 2|1 2|0 1 2", "0|1|1|2"} {
		tryNone(t, 3, lists(sets))
	}
	// a column that is right for more columns
	tryOrders(t, 4, lists("0|3|0 3"))
	tryNone(t, 3, lists("0|3|0 3"))
}

// P12.2: at most 60.
func TestHowManySets(t *testing.T) {
	all := ofSize(8, 1, 2, 3, 4)
	for _, n := range []int{59, 60} {
		tryOrders(t, 8, all[:n])
	}
	for _, n := range []int{61, 62, 100, len(all)} {
		tryNone(t, 8, all[:n])
	}
	tryNone(t, 8, append(all[:59:59], all[0]))
	tryNone(t, 8, slices.Repeat([][]int{{0}}, 100000))
	if n := len(ofSize(6, 1, 2, 3, 4, 5, 6)); n != 63 {
		t.Error(n)
	}
	tryNone(t, 6, ofSize(6, 1, 2, 3, 4, 5, 6))
	tryOrders(t, 6, ofSize(6, 1, 2, 3, 4, 5, 6)[:60])
}

// allOrders are all orders of so many columns.
func allOrders(cols int) [][]int {
	var cs []int
	for c := range cols {
		cs = append(cs, c)
	}
	return slices.DeleteFunc(without(cs, cols), func(l []int) bool { return len(l) < cols })
}

// leastByWords tries one order, of all that there are, then two, and so on.
func leastByWords(cols int, sets [][]int) int {
	orders := allOrders(cols)
	for n := 1; ; n++ {
		if canCover(orders, sets, n) {
			return n
		}
	}
}

// canCover tells whether n of some orders cover sets: one of them has to serve
// the first set, whichever it is.
func canCover(orders, sets [][]int, n int) bool {
	if len(sets) == 0 {
		return true
	}
	if n == 0 {
		return false
	}
	return slices.ContainsFunc(orders, func(order []int) bool {
		if !servesByWords(order, sets[0]) {
			return false
		}
		left := slices.DeleteFunc(slices.Clone(sets), func(set []int) bool { return servesByWords(order, set) })
		return canCover(orders, left, n-1)
	})
}

// P12.2, P12.3: all sets of sets of up to three columns.
func TestLeastByWords(t *testing.T) {
	for cols := 1; cols <= 3; cols++ {
		all := ofSize(cols, 1, 2, 3)
		for chosen := range 1 << len(all) {
			var sets [][]int
			for k, set := range all {
				if chosen>>k&1 == 1 {
					sets = append(sets, set)
				}
			}
			want := leastByWords(cols, sets)
			if got := tryOrders(t, cols, sets); got != want {
				t.Fatalf("%d, %v: %d, not %d", cols, sets, got, want)
			}
		}
	}
}
