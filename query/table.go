package query

import (
	"iter"
	"slices"
	"strconv"

	"sorites/api"
)

// tableOf has the rows that a step may meet, by the key of what stands in its
// columns Cols. Of rows with which an SScan or SNone would go on the same way
// it has one; an SFold goes by each row.
func tableOf(s api.Step, rows [][]api.Val, behind []string) map[string][][]api.Val {
	rows = agreeing(s, rows)
	if s.Op != api.SFold {
		rows = oneOfEach(rows, columnsThatTell(s, behind))
	}
	found := map[string][][]api.Val{}
	for _, row := range rows {
		key := keyOf(cut(row, s.Cols))
		found[key] = append(found[key], row)
	}
	return found
}

// agreeing are the rows that have in EqCols what their own earlier columns
// give.
func agreeing(s api.Step, rows [][]api.Val) [][]api.Val {
	var agree [][]api.Val
rows:
	for _, row := range rows {
		for c, name := range eachColumn(s.EqCols, s.Eqs) {
			if row[c] != row[s.BindCols[slices.Index(s.Binds, name)]] {
				continue rows
			}
		}
		agree = append(agree, row)
	}
	return agree
}

// columnsThatTell are those of a step by which it goes on, or not.
func columnsThatTell(s api.Step, behind []string) []int {
	cols := slices.Clone(s.Cols)
	for c, name := range eachColumn(s.BindCols, s.Binds) {
		if slices.Contains(behind, name) {
			cols = append(cols, c)
		}
	}
	return cols
}

// oneOfEach are the rows, but of those that are alike in some columns one
// alone. No two are alike in all columns, for they rise.
func oneOfEach(rows [][]api.Val, cols []int) [][]api.Val {
	if len(rows) == 0 || len(cols) == len(rows[0]) {
		return rows
	}
	met := map[string]struct{}{}
	var unlike [][]api.Val
	for _, row := range rows {
		key := keyOf(cut(row, cols))
		if _, isMet := met[key]; !isMet {
			met[key] = struct{}{}
			unlike = append(unlike, row)
		}
	}
	return unlike
}

// eachColumn goes through columns, each with what stands beside it.
func eachColumn[T any](cols []int, beside []T) iter.Seq2[int, T] {
	return func(yield func(int, T) bool) {
		for k, c := range cols {
			if !yield(c, beside[k]) {
				return
			}
		}
	}
}

func cut(row []api.Val, cols []int) []api.Val {
	vals := make([]api.Val, 0, len(cols))
	for _, c := range cols {
		vals = append(vals, row[c])
	}
	return vals
}

// keyOf is a text that no other values have: a symbol has its length ahead,
// so what it holds ends nothing.
func keyOf(vals []api.Val) string {
	var b []byte
	for _, val := range vals {
		if val.Sym {
			b = append(strconv.AppendInt(b, int64(len(val.S)), 10), ':')
			b = append(b, val.S...)
			continue
		}
		b = append(strconv.AppendInt(b, val.N, 10), ',')
	}
	return string(b)
}
