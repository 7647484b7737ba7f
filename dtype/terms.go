package dtype

import (
	"iter"
	"strings"

	"sorites/api"
)

// eachTerm yields all terms of a right rule, each ahead of its parts, in the
// order in which variables are met. What a part of the body leaves empty is
// yielded as a term that is nothing.
func eachTerm(r api.Rule) iter.Seq[api.Term] {
	return func(yield func(api.Term) bool) {
		if !visit(r.Head.L, yield) {
			return
		}
		for _, l := range r.Body {
			if !visit([]api.Term{l.X, l.Y}, yield) || !visit(l.A.L, yield) {
				return
			}
		}
	}
}

// visit hands its own yield down, lest deep terms pass through as many of
// them as they have levels.
func visit(l []api.Term, yield func(api.Term) bool) bool {
	for _, t := range l {
		if !yield(t) || !visit(t.L, yield) {
			return false
		}
	}
	return true
}

func eachAtom(r api.Rule) iter.Seq[api.Atom] {
	return func(yield func(api.Atom) bool) {
		if !yield(r.Head) {
			return
		}
		for _, l := range r.Body {
			if !holdsTwoTerms(l) && !yield(l.A) {
				return
			}
		}
	}
}

func holdsTwoTerms(l api.Lit) bool {
	switch l.Op {
	case api.LEq, api.LNe, api.LLt, api.LLe:
		return true
	}
	return false
}

// varsOf copies the names, for they are an answer's.
func varsOf(r api.Rule) []string {
	met := map[string]int{}
	var l []string
	for t := range eachTerm(r) {
		if t.Op != api.OVar {
			continue
		}
		met[t.S]++
		if met[t.S] == 1 {
			l = append(l, strings.Clone(t.S))
		}
	}
	return l
}
