package dsafe_test

import (
	"math/rand"
	"slices"
	"testing"

	"sorites/api"
	"sorites/dsafe"
	"sorites/dtree"
	"sorites/dtype"
)

// What is made here are right rules, by chance, of few variables, all numbers.

var names = []string{"v0", "v1", "v2", "v3", "v4"}

func aVariable(rng *rand.Rand) api.Term { return variable(names[rng.Intn(len(names))]) }

func aPlain(rng *rand.Rand) api.Term {
	if rng.Intn(5) == 0 {
		return number(int64(rng.Intn(3)))
	}
	return aVariable(rng)
}

func anExpression(rng *rand.Rand) api.Term {
	if rng.Intn(4) > 0 {
		return aPlain(rng)
	}
	return two(api.OAdd+rng.Intn(3), aPlain(rng), anExpression(rng))
}

func anArgument(rng *rand.Rand) api.Term {
	if rng.Intn(6) == 0 {
		return api.Term{Op: api.OAny}
	}
	return anExpression(rng)
}

func anAtom(rng *rand.Rand, argument func(*rand.Rand) api.Term) api.Atom {
	if rng.Intn(2) == 0 {
		return atom("p", argument(rng))
	}
	return atom("q", argument(rng), argument(rng))
}

func aPart(rng *rand.Rand) api.Lit {
	switch rng.Intn(12) {
	case 0:
		return api.Lit{Op: api.LNot, A: anAtom(rng, anArgument)}
	case 1, 2:
		return api.Lit{Op: api.LEq, X: anExpression(rng), Y: anExpression(rng)}
	case 3:
		return api.Lit{Op: api.LNe + rng.Intn(3), X: anExpression(rng), Y: anExpression(rng)}
	case 4:
		return api.Lit{Op: api.LCount, A: anAtom(rng, anArgument), X: aPlain(rng)}
	case 5:
		return api.Lit{Op: api.LSum + rng.Intn(3), A: anAtom(rng, anArgument), X: aPlain(rng), Y: aVariable(rng)}
	}
	return api.Lit{Op: api.LAtom, A: anAtom(rng, anArgument)}
}

func aRule(rng *rand.Rand) api.Rule {
	r := api.Rule{Head: anAtom(rng, aPlain)}
	for range 1 + rng.Intn(5) {
		r.Body = append(r.Body, aPart(rng))
	}
	return r
}

// What follows is what the document says, by trial of all orders of a body's
// parts.

func metIn(terms ...api.Term) []string {
	var met []string
	for len(terms) > 0 {
		t := terms[0]
		terms = slices.Concat(t.L, terms[1:])
		if t.Op == api.OVar && !slices.Contains(met, t.S) {
			met = append(met, t.S)
		}
	}
	return met
}

func isFold(l api.Lit) bool { return l.Op >= api.LCount }

// outerByWords are an aggregate's outer variables, in its own order.
func outerByWords(r api.Rule, k int) []string {
	elsewhere := append(metIn(r.Head.L...), metIn(r.Body[k].X)...)
	for other, l := range r.Body {
		if other != k {
			elsewhere = slices.Concat(elsewhere, metIn(l.X, l.Y), metIn(l.A.L...))
		}
	}
	var outer []string
	for _, name := range metIn(r.Body[k].A.L...) {
		if slices.Contains(elsewhere, name) {
			outer = append(outer, name)
		}
	}
	return outer
}

func within(few, many []string) bool {
	for _, name := range few {
		if !slices.Contains(many, name) {
			return false
		}
	}
	return true
}

func isHigh(t api.Term) bool { return len(t.L) > 0 }

func readyByWords(r api.Rule, k int, bound []string) bool {
	l := r.Body[k]
	all := append(metIn(l.X, l.Y), metIn(l.A.L...)...)
	var reckoned []string
	for _, t := range l.A.L {
		if isHigh(t) {
			reckoned = append(reckoned, metIn(t)...)
		}
	}
	isNew := func(t api.Term) bool { return t.Op == api.OVar && !slices.Contains(bound, t.S) }
	switch {
	case l.Op == api.LAtom:
		return within(reckoned, bound)
	case l.Op == api.LEq && isNew(l.X):
		return within(metIn(l.Y), bound)
	case l.Op == api.LEq && isNew(l.Y):
		return within(metIn(l.X), bound)
	case !isFold(l):
		return within(all, bound)
	}
	return within(outerByWords(r, k), bound) && within(reckoned, bound) && within(metIn(l.Y), metIn(l.A.L...))
}

func boundAfter(r api.Rule, k int, bound []string) []string {
	l := r.Body[k]
	if isFold(l) {
		return slices.Concat(bound, outerByWords(r, k), metIn(l.X))
	}
	return slices.Concat(bound, metIn(l.X, l.Y), metIn(l.A.L...))
}

// eachOrder hands on all orders of a rule's parts in which each one finds what
// it needs.
func eachOrder(r api.Rule, ahead []int, bound []string, hand func([]int, []string)) {
	if len(ahead) == len(r.Body) {
		hand(ahead, bound)
	}
	for k := range r.Body {
		if !slices.Contains(ahead, k) && readyByWords(r, k, bound) {
			eachOrder(r, slices.Concat(ahead, []int{k}), boundAfter(r, k, bound), hand)
		}
	}
}

// isAhead tells of two orders which one is to be: at the first place where
// they part, no atom goes ahead of atoms, and the lesser one of others.
func isAhead(r api.Rule, a, b []int) bool {
	for i, k := range a {
		if k == b[i] {
			continue
		}
		kAtom, bAtom := r.Body[k].Op == api.LAtom, r.Body[b[i]].Op == api.LAtom
		if kAtom != bAtom {
			return bAtom
		}
		return k < b[i]
	}
	return false
}

// orderByTrial is the one order that is to be, of all that there could be.
func orderByTrial(r api.Rule) ([]int, bool) {
	var best []int
	found := false
	eachOrder(r, nil, nil, func(order []int, bound []string) {
		if within(metIn(r.Head.L...), bound) && (!found || isAhead(r, order, best)) {
			best, found = order, true
		}
	})
	return best, found
}

func shown(r api.Rule) string {
	s, _ := dtree.ShowRule(r)
	return s
}

// P6.1
func TestOrderIsTheOneThatATrialOfAllFinds(t *testing.T) {
	rng := rand.New(rand.NewSource(6))
	safe, moved, folds := 0, 0, 0
	for range 40000 {
		r := aRule(rng)
		want, ok := orderByTrial(r)
		wantErr := api.OK
		if !ok {
			wantErr = api.ErrUnsafe
		}
		got, e := dsafe.Order(r)
		if !slices.Equal(got, want) || e != wantErr {
			t.Fatalf("%s: %v, %d, not %v, %d", shown(r), got, e, want, wantErr)
		}
		if !ok {
			continue
		}
		safe++
		if !slices.IsSorted(got) {
			moved++
		}
		if slices.ContainsFunc(r.Body, isFold) {
			folds++
		}
	}
	if safe < 3000 || moved < 1000 || folds < 500 {
		t.Errorf("%d safe, %d of another order, %d with aggregates", safe, moved, folds)
	}
}

// inOrder are those names of a rule that are among some, in its order.
func inOrder(r api.Rule, some []string) []string {
	var l []string
	for _, name := range dtype.Vars(r) {
		if slices.Contains(some, name) {
			l = append(l, name)
		}
	}
	return l
}

// P6.2
func TestWhatIsBoundAndInventsByTrial(t *testing.T) {
	rng := rand.New(rand.NewSource(7))
	inventing := 0
	for range 40000 {
		r := aRule(rng)
		order, ok := orderByTrial(r)
		if !ok {
			continue
		}
		var bound []string
		invents := false
		for step, k := range append(order, -1) {
			if got, e := dsafe.Bound(r, step); !slices.Equal(got, inOrder(r, bound)) || e != api.OK {
				t.Fatalf("%s, %d: %q, %d, not %q", shown(r), step, got, e, bound)
			}
			if k < 0 {
				continue
			}
			before := inOrder(r, bound)
			bound = boundAfter(r, k, bound)
			l := r.Body[k]
			binds := len(inOrder(r, bound)) > len(before)
			invents = invents || isFold(l) || l.Op == api.LEq && binds && (isHigh(l.X) || isHigh(l.Y))
		}
		if got, e := dsafe.Invents(r); got != invents || e != api.OK {
			t.Fatalf("%s: %v, %d", shown(r), got, e)
		}
		if invents {
			inventing++
		}
	}
	if inventing < 1000 {
		t.Errorf("%d invent", inventing)
	}
}

// P6.2
func TestOuterByWords(t *testing.T) {
	rng := rand.New(rand.NewSource(8))
	for range 20000 {
		r := aRule(rng)
		for k, l := range r.Body {
			got, e := dsafe.Outer(r, k)
			if !isFold(l) {
				if len(got) != 0 || e != api.ErrArg {
					t.Fatalf("%s, %d: %q, %d", shown(r), k, got, e)
				}
			} else if want := inOrder(r, outerByWords(r, k)); !slices.Equal(got, want) || e != api.OK {
				t.Fatalf("%s, %d: %q, %d, not %q", shown(r), k, got, e, want)
			}
		}
	}
}

// P6.1
func TestCheckTellsTheFirstRuleThatIsNotSafe(t *testing.T) {
	rng := rand.New(rand.NewSource(9))
	p := api.Prog{Decls: read(t, ".decl p(a: number) .decl q(a: number, b: number)").Decls}
	for range 3000 {
		p.Rules = nil
		wantLine, want := 0, api.OK
		for line := 1; line < 8; line++ {
			r := aRule(rng)
			_, ok := orderByTrial(r)
			if !ok && rng.Intn(4) > 0 {
				continue
			}
			r.Line = line
			p.Rules = append(p.Rules, r)
			if !ok && want == api.OK {
				wantLine, want = line, api.ErrUnsafe
			}
		}
		if line, e := dtype.Check(p); e != api.OK {
			wantLine, want = line, e
		}
		if line, e := dsafe.Check(p); line != wantLine || e != want {
			t.Fatalf("%v: %d, %d, not %d, %d", p.Rules, line, e, wantLine, want)
		}
	}
}

// P6.3
func TestEachPartHasItsPlaceOnceAndWhatIsBoundStaysSo(t *testing.T) {
	rng := rand.New(rand.NewSource(10))
	for range 40000 {
		r := aRule(rng)
		order, e := dsafe.Order(r)
		if e != api.OK {
			continue
		}
		sorted := slices.Sorted(slices.Values(order))
		for i, k := range sorted {
			if i != k || len(sorted) != len(r.Body) {
				t.Fatalf("%s: %v", shown(r), order)
			}
		}
		var before []string
		for k := range len(order) + 1 {
			bound, _ := dsafe.Bound(r, k)
			if !within(before, bound) {
				t.Fatalf("%s, %d: %q, ahead of it %q", shown(r), k, bound, before)
			}
			before = bound
		}
		if !within(metIn(r.Head.L...), before) {
			t.Fatalf("%s: %q", shown(r), before)
		}
	}
}

// P6.3
func TestAnotherAtomOfBoundVariablesKeepsARuleSafe(t *testing.T) {
	rng := rand.New(rand.NewSource(11))
	tried := 0
	for range 40000 {
		r := aRule(rng)
		bound, e := dsafe.Bound(r, len(r.Body))
		if e != api.OK || len(bound) == 0 {
			continue
		}
		tried++
		a := atom("p", variable(bound[rng.Intn(len(bound))]), number(1), variable(bound[rng.Intn(len(bound))]))
		if rng.Intn(2) == 0 {
			a.L[0] = two(api.OSub, a.L[0], a.L[2])
		}
		more := r
		more.Body = slices.Insert(slices.Clone(r.Body), rng.Intn(len(r.Body)+1), api.Lit{Op: api.LAtom, A: a})
		if _, e := dsafe.Order(more); e != api.OK {
			t.Fatalf("%s: safe; %s: %d", shown(r), shown(more), e)
		}
	}
	if tried < 2000 {
		t.Errorf("%d tried", tried)
	}
}
