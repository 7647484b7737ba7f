package query

import (
	"slices"

	"sorites/api"
)

// isOfSomeRule tells whether a query is that of one of a program's rules, be
// its Delta what it may. The rule's own query is made only where head and
// length are the same.
func isOfSomeRule(p api.Prog, q api.Query) bool {
	return slices.ContainsFunc(p.Rules, func(r api.Rule) bool {
		return len(r.Body) == len(q.Steps) && sameTerms(r.Head.L, q.Out) && sameQuery(queryOf(p.Decls, r), q)
	})
}

func sameQuery(a, b api.Query) bool {
	return a.Rel == b.Rel && sameTerms(a.Out, b.Out) && slices.EqualFunc(a.Steps, b.Steps, sameStep)
}

func sameStep(a, b api.Step) bool {
	return a.Op == b.Op && a.How == b.How && a.Rel == b.Rel && a.S == b.S &&
		slices.Equal(a.Cols, b.Cols) && sameTerms(a.Terms, b.Terms) &&
		slices.Equal(a.BindCols, b.BindCols) && slices.Equal(a.Binds, b.Binds) &&
		slices.Equal(a.EqCols, b.EqCols) && slices.Equal(a.Eqs, b.Eqs) &&
		sameTerm(a.X, b.X) && sameTerm(a.Y, b.Y)
}

func sameTerms(a, b []api.Term) bool { return slices.EqualFunc(a, b, sameTerm) }

// sameTerm goes no deeper than both terms do, so it ends if one of them is
// right, even if a list of the other one holds itself.
func sameTerm(a, b api.Term) bool {
	return a.Op == b.Op && a.S == b.S && a.N == b.N && sameTerms(a.L, b.L)
}
