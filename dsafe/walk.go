package dsafe

import (
	"iter"
	"slices"

	"sorites/api"
	"sorites/dtree"
)

// walk is how a rule is gone through: in which order, what is bound when, and
// whether a part invents.
type walk struct {
	order   []int
	bound   bindings
	invents bool
}

// bindings tell of each variable that is bound how many parts had then been
// gone through.
type bindings map[string]int

func walkThrough(r api.Rule) (walk, error) {
	if !dtree.RightRule(r) {
		return walk{}, errTree
	}
	w := walk{bound: bindings{}}
	for p := range steps(partsOf(r), w.bound) {
		w.order = append(w.order, p.place)
		w.invents = w.invents || p.invents(w.bound)
	}
	for k := range r.Body {
		if !slices.Contains(w.order, k) {
			return walk{}, neverReady{k}
		}
	}
	for name := range eachVar(r.Head.L) {
		if !w.bound.has(name) {
			return walk{}, neverBound{name}
		}
	}
	return w, nil
}

// steps yields the parts as they come, till none of those that are left is
// ready. What a part binds is bound when it has been gone through.
func steps(parts []part, bound bindings) iter.Seq[part] {
	return func(yield func(part) bool) {
		left := slices.Clone(parts)
	again:
		for done := 1; ; done++ {
			for _, areAtoms := range [2]bool{false, true} {
				for i, p := range left {
					if (p.lit.Op == api.LAtom) != areAtoms || !p.isReady(bound) {
						continue
					}
					if !yield(p) {
						return
					}
					bound.add(p.binds(), done)
					left = slices.Delete(left, i, i+1)
					continue again
				}
			}
			return
		}
	}
}

func (bound bindings) add(names []string, done int) {
	for _, name := range names {
		if !bound.has(name) {
			bound[name] = done
		}
	}
}

func (bound bindings) has(name string) bool { return bound[name] > 0 }

func (bound bindings) hasAll(names []string) bool {
	for _, name := range names {
		if !bound.has(name) {
			return false
		}
	}
	return true
}

// lacks tells whether a term is a variable that is not bound.
func (bound bindings) lacks(t api.Term) bool { return t.Op == api.OVar && !bound.has(t.S) }
