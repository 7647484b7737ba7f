package ram

import (
	"slices"

	"sorites/api"
	"sorites/blocks"
	"sorites/query"
)

// task is a query, with a program of its rule alone, lest all other rules be
// looked at whenever it is run; and the relations that it reads all rows of.
type task struct {
	alone api.Prog
	query api.Query
	reads []int
}

// tasksOf are those of queries that stand rule by rule.
func tasksOf(p api.Prog, queries []api.Query) []task {
	var tasks []task
	for k := range p.Rules {
		alone := api.Prog{Decls: p.Decls, Rules: p.Rules[k : k+1]}
		for len(queries) > 0 && isOf(alone, queries[0]) {
			tasks = append(tasks, task{alone, queries[0], readsAll(queries[0])})
			queries = queries[1:]
		}
	}
	return tasks
}

// isOf tells whether a query is that of a program's one rule, which on no rows
// is soon run.
func isOf(alone api.Prog, q api.Query) bool {
	if alone.Rules[0].Head.Rel != alone.Decls[q.Rel].Rel {
		return false
	}
	_, e := query.Run(alone, q, make([][][]api.Val, len(alone.Decls)), nil)
	return e == api.OK
}

// readsAll are the relations that a query reads in other steps than that on
// what is new.
func readsAll(q api.Query) []int {
	if q.Delta < 0 {
		return blocks.Reads(q)
	}
	return blocks.Reads(api.Query{Steps: slices.Concat(q.Steps[:q.Delta], q.Steps[q.Delta+1:])})
}

// pick leaves out the rows that a query does not read, lest they be looked at
// whenever it is run.
func (t task) pick(rows [][][]api.Val) [][][]api.Val {
	in := make([][][]api.Val, len(rows))
	for _, k := range t.reads {
		in[k] = rows[k]
	}
	return in
}

// delta are the new rows that a query goes through, if it goes through some.
func (t task) delta(fresh map[int][][]api.Val) [][]api.Val {
	if t.query.Delta < 0 {
		return nil
	}
	return fresh[t.query.Steps[t.query.Delta].Rel]
}

// most is how many rows a query may give at most, reckoned no further than
// they are bearable.
func (t task) most(rows [][][]api.Val, fresh map[int][][]api.Val) int {
	most := 1
	for k, s := range t.query.Steps {
		switch {
		case most > bearable || s.Op != api.SScan:
		case k == t.query.Delta:
			most *= len(fresh[s.Rel])
		default:
			most *= len(rows[s.Rel])
		}
	}
	return most
}
