package dsafe

import (
	"slices"

	"sorites/api"
)

// part is a part of a body, with the variables that stand in it: in X, in Y,
// in A; of these the ones in arguments that are to be reckoned, and of an
// aggregate the outer ones.
type part struct {
	place    int
	lit      api.Lit
	x, y, a  []string
	reckoned []string
	outer    []string
}

func partsOf(r api.Rule) []part {
	stands := standings(r)
	var parts []part
	for k, l := range r.Body {
		p := part{place: k, lit: l, x: varsOf(l.X), y: varsOf(l.Y), a: varsOf(l.A.L...)}
		p.reckoned = varsOf(reckonedOf(l.A.L)...)
		if isAggregate(l) {
			p.outer = outerOf(l, stands)
		}
		parts = append(parts, p)
	}
	return parts
}

// isReady falls from what a kind of part needs, or is given, beside to what
// it needs as others do.
func (p part) isReady(bound bindings) bool {
	switch p.lit.Op {
	case api.LEq:
		if bound.lacks(p.lit.X) && bound.hasAll(p.y) || bound.lacks(p.lit.Y) && bound.hasAll(p.x) {
			return true
		}
		fallthrough
	case api.LNot, api.LNe, api.LLt, api.LLe:
		return bound.hasAll(p.x) && bound.hasAll(p.y) && bound.hasAll(p.a)
	case api.LSum, api.LMin, api.LMax:
		if !slices.Contains(p.a, p.lit.Y.S) {
			return false
		}
		fallthrough
	case api.LCount:
		if !bound.hasAll(p.outer) {
			return false
		}
		fallthrough
	case api.LAtom:
		return bound.hasAll(p.reckoned)
	}
	return false
}

// invents is asked of a part that is ready: if it lacks one side, it is that
// one that it binds.
func (p part) invents(bound bindings) bool {
	x, y := p.lit.X, p.lit.Y
	if p.lit.Op == api.LEq {
		return bound.lacks(x) && isReckoned(y) || bound.lacks(y) && isReckoned(x)
	}
	return isAggregate(p.lit)
}

// binds are the variables that are bound when a part has been gone through:
// of an aggregate X alone, for what is outer was bound ahead, and the others
// are its own.
func (p part) binds() []string {
	if isAggregate(p.lit) {
		return p.x
	}
	return slices.Concat(p.x, p.y, p.a)
}
