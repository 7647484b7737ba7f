package rel

import (
	"cmp"
	"iter"

	"sorites/api"
)

// pairs goes through two lists at once, as far as both have places.
func pairs[A, B any](a []A, b []B) iter.Seq2[A, B] {
	return func(yield func(A, B) bool) {
		for i := range min(len(a), len(b)) {
			if !yield(a[i], b[i]) {
				return
			}
		}
	}
}

// compareLists lets the first two that are unlike decide, else what ends first
// is less.
func compareLists[T any](a, b []T, compare func(T, T) int) int {
	for x, y := range pairs(a, b) {
		if c := compare(x, y); c != 0 {
			return c
		}
	}
	return cmp.Compare(len(a), len(b))
}

func compareVals(a, b api.Val) int {
	switch {
	case a.Sym && b.Sym:
		return cmp.Compare(a.S, b.S)
	case a.Sym:
		return 1
	case b.Sym:
		return -1
	}
	return cmp.Compare(a.N, b.N)
}

// eachOfBoth goes through two lists that rise at once. It yields each row that
// is in one of both, so that they rise, and in which lists it is; one that is
// in both comes as the first list has it.
func eachOfBoth(a, b [][]api.Val) iter.Seq2[[2]bool, []api.Val] {
	return func(yield func([2]bool, []api.Val) bool) {
		for at := [2]int{}; at[0] < len(a) || at[1] < len(b); {
			in, row := leastOf(a[at[0]:], b[at[1]:])
			if !yield(in, row) {
				return
			}
			for k, isThere := range in {
				if isThere {
					at[k]++
				}
			}
		}
	}
}

// leastOf is the least row of two lists that rise, not both of them empty, and
// in which of them it is.
func leastOf(a, b [][]api.Val) ([2]bool, []api.Val) {
	switch {
	case len(a) == 0:
		return [2]bool{false, true}, b[0]
	case len(b) == 0:
		return [2]bool{true, false}, a[0]
	}
	c := Compare(a[0], b[0])
	if c > 0 {
		return [2]bool{false, true}, b[0]
	}
	return [2]bool{true, c == 0}, a[0]
}
