package model

import (
	"iter"
	"slices"
	"strconv"

	"sorites/api"
	"sorites/rel"
)

// relation has its rows as they came, each once. A round goes through the
// first upto of them; those from fresh on are new in it.
type relation struct {
	rows        [][]api.Val
	keys        map[string]struct{}
	looks       []*look
	fresh, upto int
}

// look finds the places of rows by what stands in some columns, of as many
// rows as it has been laid over.
type look struct {
	cols   []int
	places map[string][]int
	done   int
}

// relations are those of a program.
type relations []*relation

func relationsOf(in [][][]api.Val) relations {
	var known relations
	for _, l := range in {
		known = append(known, newRelation(l))
	}
	return known
}

func (known relations) sorted() [][][]api.Val {
	var all [][][]api.Val
	for _, l := range known {
		all = append(all, rel.Sort(l.rows))
	}
	return all
}

func newRelation(rows [][]api.Val) *relation {
	l := &relation{keys: map[string]struct{}{}}
	for _, row := range rows {
		l.add(row)
	}
	l.upto = len(l.rows)
	return l
}

// add tells whether a row is new.
func (l *relation) add(row []api.Val) bool {
	key := keyOf(row)
	if _, isThere := l.keys[key]; isThere {
		return false
	}
	l.keys[key] = struct{}{}
	l.rows = append(l.rows, row)
	return true
}

// advance lets a round see the rows that the one ahead of it gave, and tells
// whether there are any.
func (l *relation) advance() bool {
	l.fresh, l.upto = l.upto, len(l.rows)
	return l.fresh < l.upto
}

// eachRow yields the rows from a place on that have some values in some
// columns, without those that came in this round.
func (l *relation) eachRow(from int, cols []int, vals []api.Val) iter.Seq[[]api.Val] {
	return func(yield func([]api.Val) bool) {
		if len(cols) == 0 {
			for _, row := range l.rows[from:l.upto] {
				if !yield(row) {
					return
				}
			}
			return
		}
		places := l.lookFor(cols).places[keyOf(vals)]
		first, _ := slices.BinarySearch(places, from)
		for _, k := range places[first:] {
			if k >= l.upto || !yield(l.rows[k]) {
				return
			}
		}
	}
}

func (l *relation) lookFor(cols []int) *look {
	k := slices.IndexFunc(l.looks, func(f *look) bool { return slices.Equal(f.cols, cols) })
	if k < 0 {
		k = len(l.looks)
		l.looks = append(l.looks, &look{cols: slices.Clone(cols), places: map[string][]int{}})
	}
	f := l.looks[k]
	for ; f.done < len(l.rows); f.done++ {
		key := keyOf(cut(l.rows[f.done], cols))
		f.places[key] = append(f.places[key], f.done)
	}
	return f
}

func cut(row []api.Val, cols []int) []api.Val {
	vals := make([]api.Val, 0, len(cols))
	for _, c := range cols {
		vals = append(vals, row[c])
	}
	return vals
}

// keyOf is a text that no other values have: a symbol has its length ahead,
// so what it holds ends nothing.
func keyOf(vals []api.Val) string {
	var b []byte
	for _, val := range vals {
		if val.Sym {
			b = append(strconv.AppendInt(b, int64(len(val.S)), 10), ':')
			b = append(b, val.S...)
			continue
		}
		b = append(strconv.AppendInt(b, val.N, 10), ',')
	}
	return string(b)
}
