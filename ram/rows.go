package ram

import (
	"slices"

	"sorites/api"
	"sorites/rel"
)

// has tells whether a row is one of some that rise.
func has(l [][]api.Val, row []api.Val) bool {
	_, is := slices.BinarySearchFunc(l, row, rel.Compare)
	return is
}

// merged are the rows of two lists that rise and have none in common. Where few
// are laid to many, most are moved in one go.
func merged(l, laid [][]api.Val) [][]api.Val {
	if len(laid) == 0 {
		return l
	}
	all := make([][]api.Val, 0, len(l)+len(laid))
	for _, row := range laid {
		k, _ := slices.BinarySearchFunc(l, row, rel.Compare)
		all = append(append(all, l[:k]...), row)
		l = l[k:]
	}
	return append(all, l...)
}
