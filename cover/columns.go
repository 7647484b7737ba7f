package cover

import (
	"iter"
	"slices"

	"sorites/api"
)

// maxSets is how many sets may be asked to be covered.
const maxSets = 60

// columns are a set of them: bit c is column c.
type columns uint

func (s columns) has(c int) bool { return s>>c&1 == 1 }

// isBelow tells whether a set is within another one, which has more.
func (s columns) isBelow(t columns) bool { return s != t && s&^t == 0 }

// eachBelow yields those of some sets that are below one.
func eachBelow(sets []columns, top columns) iter.Seq[columns] {
	return func(yield func(columns) bool) {
		for _, s := range sets {
			if s.isBelow(top) && !yield(s) {
				return
			}
		}
	}
}

// asColumns are lists as sets, if all of them are, and are such that they can
// be covered.
func asColumns(cols int, lists [][]int) ([]columns, bool) {
	if cols < 1 || cols > api.MaxCols || len(lists) > maxSets {
		return nil, false
	}
	var sets []columns
	for _, list := range lists {
		s, ok := columnsOf(cols, list)
		if !ok || slices.Contains(sets, s) {
			return nil, false
		}
		sets = append(sets, s)
	}
	return sets, true
}

// columnsOf is a list as a set, if it rises, is not empty, and its columns are
// among the first cols ones.
func columnsOf(cols int, list []int) (columns, bool) {
	var s columns
	next := 0
	for _, c := range list {
		if c < next || c >= cols {
			return 0, false
		}
		s |= 1 << c
		next = c + 1
	}
	return s, s != 0
}

// orderOf serves each set of a chain: first the columns of the lowest set,
// then what each higher one has beside these, then those of none.
func orderOf(cols int, chain []columns) []int {
	order := make([]int, 0, cols)
	for _, s := range append(chain, 1<<cols-1) {
		for c := range cols {
			if s.has(c) && !slices.Contains(order, c) {
				order = append(order, c)
			}
		}
	}
	return order
}
