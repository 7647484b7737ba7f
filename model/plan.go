package model

import (
	"slices"

	"sorites/api"
	"sorites/dsafe"
	"sorites/dtype"
)

// noPart is the place of no part.
const noPart = -1

// plan is a rule whose parts stand in the order in which they are gone
// through.
type plan struct {
	rel   int
	head  api.Atom
	parts []part
}

// part is one of a rule, with the place of its atom's relation, if it has one.
type part struct {
	lit  api.Lit
	rel  int
	need []string // the variables that are bound, and named behind it
	// may it come to values of these that it came to before?
	repeats bool
	// is it an LAtom that binds none of these, so that one row is as good as all?
	asks bool
}

// planOf is that of a rule that is safe.
func planOf(decls []api.Decl, r api.Rule) plan {
	p := plan{head: r.Head}
	p.rel, _ = dtype.Find(decls, r.Head.Rel)
	order, _ := dsafe.Order(r)
	last := lastPlaces(r, order)
	var ahead []string
	for k, place := range order {
		bound, _ := dsafe.Bound(r, k+1)
		at := partOf(r.Body[place], k, ahead, bound, last)
		at.rel, _ = dtype.Find(decls, at.lit.A.Rel)
		p.parts = append(p.parts, at)
		ahead = bound
	}
	return p
}

// lastPlaces tell of each variable where, in the order, the last part is that
// names it; the head is behind all parts.
func lastPlaces(r api.Rule, order []int) map[string]int {
	last := map[string]int{}
	for k, place := range order {
		for _, name := range dtype.Vars(api.Rule{Head: r.Head, Body: r.Body[place : place+1]}) {
			last[name] = k
		}
	}
	for _, t := range r.Head.L {
		if t.Op == api.OVar {
			last[t.S] = len(order)
		}
	}
	return last
}

// partOf is the one at the place k, with what is bound ahead of it and behind.
func partOf(l api.Lit, k int, ahead, bound []string, last map[string]int) part {
	at := part{lit: l, asks: l.Op == api.LAtom, repeats: leavesColumns(l)}
	for _, name := range bound {
		switch {
		case last[name] > k:
			at.need = append(at.need, name)
			at.asks = at.asks && slices.Contains(ahead, name)
		case last[name] == k:
			at.repeats = true
		}
	}
	return at
}

// leavesColumns tells whether a part is an LAtom that rows may meet that are
// unlike in other columns alone.
func leavesColumns(l api.Lit) bool {
	return l.Op == api.LAtom && slices.ContainsFunc(l.A.L, func(t api.Term) bool { return t.Op == api.OAny })
}

// rulesOf are the plans of the rules whose heads are of a group.
func rulesOf(p api.Prog, group []int) []plan {
	var rules []plan
	for _, r := range p.Rules {
		if k, _ := dtype.Find(p.Decls, r.Head.Rel); slices.Contains(group, k) {
			rules = append(rules, planOf(p.Decls, r))
		}
	}
	return rules
}

// atomsOf are the places of a plan's LAtoms of a group.
func (r plan) atomsOf(group []int) []int {
	var places []int
	for k, at := range r.parts {
		if at.lit.Op == api.LAtom && slices.Contains(group, at.rel) {
			places = append(places, k)
		}
	}
	return places
}
