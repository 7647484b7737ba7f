package cover

import (
	"iter"

	"sorites/api"
	"sorites/query"
)

// eachLookUp yields the look-ups of a relation, in a program that is safe,
// step by step, some of them again and again. Each rule stands alone when its
// query is asked for, lest the others be looked at as often as there are rules.
func eachLookUp(p api.Prog, rel int) iter.Seq[[]int] {
	return func(yield func([]int) bool) {
		for k := range p.Rules {
			q, _ := query.Of(api.Prog{Decls: p.Decls, Rules: p.Rules[k : k+1]}, 0)
			for _, s := range q.Steps {
				if s.Rel == rel && len(s.Cols) > 0 && !yield(s.Cols) {
					return
				}
			}
		}
	}
}
