package dgraph

import (
	"iter"
	"slices"

	"sorites/api"
	"sorites/dtype"
)

// places are some of relations.
type places map[int]struct{}

func (l places) add(k int) { l[k] = struct{}{} }

func (l places) has(k int) bool {
	_, ok := l[k]
	return ok
}

// graph has for each relation the places of those that it hangs on: near are
// those by a rule of its own, far those over whichever others, and itself.
type graph struct {
	near, far []places
}

func graphOf(p api.Prog) graph {
	var g graph
	for range p.Decls {
		g.near = append(g.near, places{})
	}
	for a, b := range eachHanging(p) {
		g.near[a].add(b)
	}
	for a := range p.Decls {
		g.far = append(g.far, g.reach(a))
	}
	return g
}

// eachHanging yields the places of a rule's relation, and of one that it hangs
// on by that rule, as often as rules say so.
func eachHanging(p api.Prog) iter.Seq2[int, int] {
	return func(yield func(int, int) bool) {
		for _, r := range p.Rules {
			a, _ := dtype.Find(p.Decls, r.Head.Rel)
			for _, b := range eachAtom(p.Decls, r) {
				if !yield(a, b) {
					return
				}
			}
		}
	}
}

// eachAtom yields what each part of a body is that has an atom, and the place
// of the atom's relation. The other parts' atoms are empty, and there is no
// relation without a name.
func eachAtom(decls []api.Decl, r api.Rule) iter.Seq2[int, int] {
	return func(yield func(int, int) bool) {
		for _, l := range r.Body {
			if b, ok := dtype.Find(decls, l.A.Rel); ok && !yield(l.Op, b) {
				return
			}
		}
	}
}

func (g graph) reach(a int) places {
	met := places{}
	met.add(a)
	for left := []int{a}; len(left) > 0; {
		last := left[len(left)-1]
		left = left[:len(left)-1]
		for b := range g.near[last] {
			if !met.has(b) {
				met.add(b)
				left = append(left, b)
			}
		}
	}
	return met
}

func (g graph) areMutual(a, b int) bool { return g.far[a].has(b) && g.far[b].has(a) }

// groups cuts all groups from one list, each without spare room, lest one
// that grows writes into the next one.
func (g graph) groups() [][]int {
	var groups [][]int
	done, list := places{}, make([]int, 0, len(g.far))
again:
	for {
		for a := range g.far {
			if !g.isNext(a, done) {
				continue
			}
			start := len(list)
			for b := range g.far[a] {
				if g.areMutual(a, b) {
					done.add(b)
					list = append(list, b)
				}
			}
			group := list[start:len(list):len(list)]
			slices.Sort(group)
			groups = append(groups, group)
			continue again
		}
		return groups
	}
}

// isNext tells whether a relation is left, and its group hangs on none of the
// others that are left.
func (g graph) isNext(a int, done places) bool {
	if done.has(a) {
		return false
	}
	for b := range g.far[a] {
		if !done.has(b) && !g.areMutual(a, b) {
			return false
		}
	}
	return true
}
