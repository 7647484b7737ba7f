package dsafe

import (
	"iter"

	"sorites/api"
)

// standings counts in how many places of a rule each variable stands.
func standings(r api.Rule) map[string]int {
	count := map[string]int{}
	for place := range eachPlace(r) {
		for _, name := range varsOf(place...) {
			count[name]++
		}
	}
	return count
}

// eachPlace yields the terms of the head, and of each part of the body. An
// aggregate's X is a place of its own, for it makes A's variables outer; its
// Y makes none so, and is of one place with A.
func eachPlace(r api.Rule) iter.Seq[[]api.Term] {
	return func(yield func([]api.Term) bool) {
		if !yield(r.Head.L) {
			return
		}
		for _, l := range r.Body {
			place := append([]api.Term{l.Y}, l.A.L...)
			if !isAggregate(l) {
				place = append(place, l.X)
			} else if !yield([]api.Term{l.X}) {
				return
			}
			if !yield(place) {
				return
			}
		}
	}
}

// outerOf are the variables of an aggregate's A that stand elsewhere too.
func outerOf(l api.Lit, stands map[string]int) []string {
	var outer []string
	for _, name := range varsOf(l.A.L...) {
		if stands[name] > 1 {
			outer = append(outer, name)
		}
	}
	return outer
}

// varsOf are the variables of right terms, each once.
func varsOf(l ...api.Term) []string {
	met := map[string]int{}
	var names []string
	for name := range eachVar(l) {
		met[name]++
		if met[name] == 1 {
			names = append(names, name)
		}
	}
	return names
}

func eachVar(l []api.Term) iter.Seq[string] {
	return func(yield func(string) bool) { visit(l, yield) }
}

// visit hands its own yield down, lest deep terms pass through as many of
// them as they have levels.
func visit(l []api.Term, yield func(string) bool) bool {
	for _, t := range l {
		if t.Op == api.OVar && !yield(t.S) || !visit(t.L, yield) {
			return false
		}
	}
	return true
}

func reckonedOf(l []api.Term) []api.Term {
	var reckoned []api.Term
	for _, t := range l {
		if isReckoned(t) {
			reckoned = append(reckoned, t)
		}
	}
	return reckoned
}

func isReckoned(t api.Term) bool {
	switch t.Op {
	case api.OAdd, api.OSub, api.OMul:
		return true
	}
	return false
}

func isAggregate(l api.Lit) bool {
	switch l.Op {
	case api.LCount, api.LSum, api.LMin, api.LMax:
		return true
	}
	return false
}
