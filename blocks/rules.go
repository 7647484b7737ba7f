package blocks

import (
	"iter"
	"slices"

	"sorites/api"
	"sorites/query"
)

// eachRule yields the rules of a program, each in a program of its own, lest
// all others be looked at again when its query is asked for.
func eachRule(p api.Prog) iter.Seq[api.Prog] {
	return func(yield func(api.Prog) bool) {
		for k := range p.Rules {
			if !yield(api.Prog{Decls: p.Decls, Rules: p.Rules[k : k+1]}) {
				return
			}
		}
	}
}

// layRules lays the queries of a program's rules, which are safe, into the
// blocks of their heads. The relations that are mutual with a head's are those
// of its block, so a rule is recursive just if a step goes through one of these.
func layRules(blocks []api.Block, p api.Prog) {
rules:
	for alone := range eachRule(p) {
		q, _ := query.Of(alone, 0)
		b := blockWith(blocks, q.Rel)
		for _, s := range q.Steps {
			if isThrough(s, b.Rels) {
				b.Loop = append(b.Loop, onNew(alone, q.Steps, b.Rels)...)
				continue rules
			}
		}
		b.Once = append(b.Once, q)
	}
}

// onNew are the queries of the one rule of a program, with each of its steps
// through a relation of the group as the one on what is new. Each is asked for
// anew, for no two of them may share lists.
func onNew(alone api.Prog, steps []api.Step, group []int) []api.Query {
	var queries []api.Query
	for k, s := range steps {
		if isThrough(s, group) {
			q, _ := query.Of(alone, 0)
			q.Delta = k
			queries = append(queries, q)
		}
	}
	return queries
}

func isThrough(s api.Step, group []int) bool {
	return s.Op == api.SScan && slices.Contains(group, s.Rel)
}

// blockWith is the block that a relation is of: there is just one.
func blockWith(blocks []api.Block, rel int) *api.Block {
	k := slices.IndexFunc(blocks, func(b api.Block) bool { return slices.Contains(b.Rels, rel) })
	return &blocks[k]
}
