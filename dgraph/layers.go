package dgraph

import (
	"iter"

	"sorites/api"
	"sorites/dsafe"
	"sorites/dtype"
)

// checkLayers tells why a program is not layered, if it is so by a rule.
func (g graph) checkLayers(decls []api.Decl, r api.Rule) api.Errno {
	for op := range g.eachMutual(decls, r) {
		if op != api.LAtom {
			return api.ErrStrat
		}
	}
	if !g.isRecursive(decls, r) {
		return api.OK
	}
	if invents, _ := dsafe.Invents(r); invents {
		return api.ErrInvent
	}
	return api.OK
}

func (g graph) isRecursive(decls []api.Decl, r api.Rule) bool {
	for op := range g.eachMutual(decls, r) {
		if op == api.LAtom {
			return true
		}
	}
	return false
}

// eachMutual yields what each part of a body is whose relation is mutual with
// the head's.
func (g graph) eachMutual(decls []api.Decl, r api.Rule) iter.Seq[int] {
	return func(yield func(int) bool) {
		head, _ := dtype.Find(decls, r.Head.Rel)
		for op, b := range eachAtom(decls, r) {
			if g.areMutual(head, b) && !yield(op) {
				return
			}
		}
	}
}
