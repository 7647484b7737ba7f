package cover_test

import (
	"math"
	"slices"
	"testing"

	"sorites/cover"
)

// P12.1
func TestServes(t *testing.T) {
	for _, x := range []struct {
		order, set string
		want       bool
	}{
		{"0 1 2", "0", true}, {"0 1 2", "1", false}, {"0 1 2", "0 1", true}, {"0 1 2", "0 2", false}, {"0 1 2", "1 2", false}, {"0 1 2", "0 1 2", true},
		{"2 0 1", "2", true}, {"2 0 1", "0 2", true}, {"2 0 1", "0", false}, {"2 0 1", "0 1", false}, {"2 0 1", "0 1 2", true},
		{"0 1 2", "0 1 2 3", false}, {"0", "0 1", false}, {"0 1", "0 3", false}, {"0 1 2", "3", false},
		// no columns are the first ones of each order
		{"0 1 2", "", true}, {"", "", true}, {"", "0", false},
		// what is no set, or no order of all columns, is held in the same way
		{"1 0 2", "0 1", true}, {"0 1 2", "1 0", true}, {"2 1 0", "0 1 2", true}, {"7 3", "7", true}, {"7 3", "3", false}, {"7 3", "3 7", true}, {"-1 5", "-1", true}, {"-1 5", "5", false}, {"5 64 0", "0 5", false}, {"64 0", "0", false},
	} {
		if got := cover.Serves(list(x.order), list(x.set)); got != x.want {
			t.Errorf("%s serves %s: %v", x.order, x.set, got)
		}
	}
	for _, n := range []int{math.MinInt, math.MaxInt, -1, 8, 63, 64, 1 << 32, 1 << 62} {
		if !cover.Serves([]int{n, 0}, []int{n}) || cover.Serves([]int{n}, []int{0}) || cover.Serves([]int{0}, []int{n}) || !cover.Serves([]int{n, 0}, []int{0, n}) {
			t.Errorf("column %d", n)
		}
	}
}

// without are the lists of at most n of some columns, none twice.
func without(cols []int, n int) [][]int {
	l := [][]int{nil}
	if n == 0 {
		return l
	}
	for _, c := range cols {
		others := slices.DeleteFunc(slices.Clone(cols), func(d int) bool { return d == c })
		for _, rest := range without(others, n-1) {
			l = append(l, append([]int{c}, rest...))
		}
	}
	return l
}

func hasAll(l, of []int) bool {
	return !slices.ContainsFunc(of, func(c int) bool { return !slices.Contains(l, c) })
}

func servesByWords(order, set []int) bool {
	if len(order) < len(set) {
		return false
	}
	first := order[:len(set)]
	return hasAll(first, set) && hasAll(set, first)
}

// P12.1
func TestServesByWords(t *testing.T) {
	all := without([]int{0, 1, 2, -1, 7}, 4)
	some := 0
	for _, order := range all {
		for _, set := range all {
			got := cover.Serves(order, set)
			if got != servesByWords(order, set) {
				t.Fatalf("%v serves %v: %v", order, set, got)
			}
			if got {
				some++
			}
		}
	}
	if len(all) < 200 || some < 1000 {
		t.Errorf("%d lists, %d serve", len(all), some)
	}
}

// R1: lists with a column twice, and great ones, are answered, whatever it is.
func TestServesOfAnyLists(t *testing.T) {
	great := make([]int, 1<<17)
	for c := range great {
		great[c] = c
	}
	turned := slices.Clone(great)
	slices.Reverse(turned)
	if !cover.Serves(great, turned) || !cover.Serves(great, turned[1:]) || cover.Serves(great, turned[:9]) || !cover.Serves(turned, great) {
		t.Error("great lists")
	}
	for _, order := range [][]int{{0, 0}, {0, 0, 1}, {1, 0, 1}, make([]int, 300)} {
		for _, set := range [][]int{{0, 0}, {0}, {0, 1}, {1, 1, 1}, make([]int, 299)} {
			cover.Serves(order, set)
			cover.Which([][]int{order, set}, set)
		}
	}
}

// P12.1: the place of the first one.
func TestWhich(t *testing.T) {
	for _, x := range []struct {
		orders, set string
		want        int
		ok          bool
	}{
		{"0 1 2 | 1 2 0", "0", 0, true},
		{"0 1 2 | 1 2 0", "1", 1, true},
		{"0 1 2 | 1 2 0", "1 2", 1, true},
		{"0 1 2 | 1 2 0", "2", 0, false},
		{"0 1 2 | 1 2 0", "0 2", 0, false},
		{"0 1 2 | 1 0 2", "0 1", 0, true},
		{"1 2 0 | 1 0 2 | 0 1 2", "0 1", 1, true},
		{"2 1 0 | 1 2 0 | 0 1 2 | 0 2 1", "0", 2, true},
		{"0 1 2 | 1 2 0", "0 1 2", 0, true},
		{"0 1 2 | 1 2 0", "", 0, true},
		{"0 1 2 | 1 2 0", "0 1 2 3", 0, false},
		{"", "0", 0, false},
		{"", "", 0, false},
		// orders of unlike lengths
		{"0 | 0 1", "0 1", 1, true},
		{" | 1", "1", 1, true},
		{"1 | ", "", 0, true},
	} {
		if k, ok := cover.Which(lists(x.orders), list(x.set)); k != x.want || ok != x.ok {
			t.Errorf("%s in %s: %d, %v", x.set, x.orders, k, ok)
		}
	}
}

// P12.1
func TestWhichByWords(t *testing.T) {
	all := without([]int{0, 1, 2}, 3)
	for i := range all {
		for k := range all {
			for _, set := range all {
				orders := [][]int{all[i], all[k], all[(i+k)%len(all)]}
				want := slices.IndexFunc(orders, func(order []int) bool { return servesByWords(order, set) })
				if at, ok := cover.Which(orders, set); at != max(want, 0) || ok != (want >= 0) {
					t.Fatalf("%v in %v: %d, %v", set, orders, at, ok)
				}
			}
		}
	}
}
