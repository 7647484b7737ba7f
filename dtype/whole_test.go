package dtype_test

import (
	"math/rand"
	"regexp"
	"slices"
	"testing"

	"sorites/api"
	"sorites/dtree"
	"sorites/dtype"
)

// What is made here are right rules, by chance, of few variables.

var names = []string{"v0", "v1", "v2", "v3", "v4"}

func aPlain(rng *rand.Rand) api.Term {
	switch rng.Intn(8) {
	case 0:
		return number(int64(rng.Intn(3) - 1))
	case 1:
		return symbol("s")
	}
	return variable(names[rng.Intn(len(names))])
}

func aSum(rng *rand.Rand, high int) api.Term {
	if high == 1 || rng.Intn(2) == 0 {
		if rng.Intn(3) == 0 {
			return number(5)
		}
		return variable(names[rng.Intn(len(names))])
	}
	return two(api.OAdd+rng.Intn(3), aSum(rng, high-1), aSum(rng, high-1))
}

func anExpression(rng *rand.Rand) api.Term {
	if rng.Intn(6) == 0 {
		return aSum(rng, 3)
	}
	return aPlain(rng)
}

func anArgument(rng *rand.Rand) api.Term {
	if rng.Intn(5) == 0 {
		return api.Term{Op: api.OAny}
	}
	return anExpression(rng)
}

// anAtom is mostly of a relation that there is, with as many arguments as
// that has columns.
func anAtom(rng *rand.Rand, decls []api.Decl, argument func(*rand.Rand) api.Term) api.Atom {
	d := decls[rng.Intn(len(decls))]
	a := api.Atom{Rel: d.Rel}
	for range d.Types {
		a.L = append(a.L, argument(rng))
	}
	switch rng.Intn(60) {
	case 0:
		a.Rel = "none"
	case 1:
		a.L = append(a.L, argument(rng))
	}
	return a
}

func aPart(rng *rand.Rand, decls []api.Decl) api.Lit {
	l := api.Lit{Op: 1 + rng.Intn(api.LMax)}
	switch {
	case l.Op <= api.LNot:
		l.A = anAtom(rng, decls, anArgument)
	case l.Op <= api.LLe:
		l.X, l.Y = anExpression(rng), anExpression(rng)
	default:
		l.A, l.X = anAtom(rng, decls, anArgument), variable(names[rng.Intn(len(names))])
		if rng.Intn(3) == 0 {
			l.X = number(0)
		}
		if l.Op != api.LCount {
			l.Y = variable(names[rng.Intn(len(names))])
		}
	}
	return l
}

func aRule(rng *rand.Rand, decls []api.Decl) api.Rule {
	r := api.Rule{Head: anAtom(rng, decls, aPlain)}
	for range 1 + rng.Intn(5) {
		r.Body = append(r.Body, aPart(rng, decls))
	}
	return r
}

// What follows is what the document says, by trial of all types that
// variables might have.

func atomsOf(r api.Rule) []api.Atom {
	atoms := []api.Atom{r.Head}
	for _, l := range r.Body {
		if l.A.Rel != "" {
			atoms = append(atoms, l.A)
		}
	}
	return atoms
}

func columnsOf(decls []api.Decl, a api.Atom) ([]int, api.Errno) {
	for _, d := range decls {
		if d.Rel != a.Rel {
			continue
		}
		if len(d.Types) != len(a.L) {
			return nil, api.ErrArity
		}
		return d.Types, api.OK
	}
	return nil, api.ErrNoRel
}

type trial map[string]int

// typeOf is a term's type, if its parts have theirs; a nameless term has the
// one that is asked for.
func (of trial) typeOf(t api.Term, asked int) (int, bool) {
	for _, part := range t.L {
		if kind, ok := of.typeOf(part, 0); kind != api.TNum || !ok {
			return 0, false
		}
	}
	switch t.Op {
	case api.OVar:
		return of[t.S], true
	case api.OSym:
		return api.TSym, true
	case api.OAny:
		return asked, true
	}
	return api.TNum, true
}

func (of trial) has(t api.Term, kind int) bool {
	got, ok := of.typeOf(t, kind)
	return ok && got == kind
}

func (of trial) holds(decls []api.Decl, r api.Rule) bool {
	for _, a := range atomsOf(r) {
		columns, _ := columnsOf(decls, a)
		for i, t := range a.L {
			if !of.has(t, columns[i]) {
				return false
			}
		}
	}
	for _, l := range r.Body {
		switch {
		case l.Op <= api.LNot:
		case l.Op <= api.LLe:
			kind, ok := of.typeOf(l.X, 0)
			if !ok || !of.has(l.Y, kind) {
				return false
			}
		case !of.has(l.X, api.TNum) || l.Op != api.LCount && !of.has(l.Y, api.TNum):
			return false
		}
	}
	return true
}

// typesByTrial are the types of a rule's variables, if just one way of all
// ways of giving them types holds.
func typesByTrial(decls []api.Decl, r api.Rule) ([]int, api.Errno) {
	for _, a := range atomsOf(r) {
		if _, e := columnsOf(decls, a); e != api.OK {
			return nil, e
		}
	}
	vars := metIn(r)
	var found [][]int
	for way := range 1 << len(vars) {
		of, kinds := trial{}, []int{}
		for i, name := range vars {
			kinds = append(kinds, 1+way>>i&1)
			of[name] = kinds[i]
		}
		if of.holds(decls, r) {
			found = append(found, kinds)
		}
	}
	if len(found) != 1 {
		return nil, api.ErrType
	}
	return found[0], api.OK
}

func relations(t *testing.T) []api.Decl {
	return read(t, someRelations+`.decl n(a: symbol) .decl p(a: symbol, b: symbol, c: symbol)`).Decls
}

// P5.2
func TestTypesAreThoseThatATrialOfAllFinds(t *testing.T) {
	rng := rand.New(rand.NewSource(5))
	decls := relations(t)
	count := map[api.Errno]int{}
	for range 60000 {
		r := aRule(rng, decls)
		want, wantErr := typesByTrial(decls, r)
		got, e := dtype.Types(decls, r)
		if !slices.Equal(got, want) || e != wantErr {
			s, _ := dtree.ShowRule(r)
			t.Fatalf("%s: %v, %d, not %v, %d", s, got, e, want, wantErr)
		}
		count[e]++
	}
	for _, e := range []api.Errno{api.OK, api.ErrNoRel, api.ErrArity, api.ErrType} {
		if count[e] < 1000 {
			t.Errorf("error %d: %d times", e, count[e])
		}
	}
}

// P5.1: a rule's text has its variables in the order in which they are met.
func TestVariablesAreThoseOfTheText(t *testing.T) {
	rng := rand.New(rand.NewSource(6))
	decls := relations(t)
	form := regexp.MustCompile(`v[0-4]`)
	for range 20000 {
		r := aRule(rng, decls)
		s, _ := dtree.ShowRule(r)
		var want []string
		for _, name := range form.FindAllString(s, -1) {
			if !slices.Contains(want, name) {
				want = append(want, name)
			}
		}
		if got := dtype.Vars(r); !slices.Equal(got, want) {
			t.Fatalf("%s: %q", s, got)
		}
	}
}

// P5.3
func TestCheckTellsTheFirstOfManyRules(t *testing.T) {
	rng := rand.New(rand.NewSource(7))
	decls := relations(t)[:5]
	var fit, unfit []api.Rule
	for line := range 20000 {
		r := aRule(rng, decls)
		r.Line = line + 1
		if _, e := typesByTrial(decls, r); e == api.OK {
			fit = append(fit, r)
		} else {
			unfit = append(unfit, r)
		}
	}
	for range 3000 {
		p := api.Prog{Decls: decls}
		for range rng.Intn(12) {
			p.Rules = append(p.Rules, fit[rng.Intn(len(fit))])
		}
		if line, e := dtype.Check(p); line != 0 || e != api.OK {
			t.Fatalf("%v: %d, %d", p.Rules, line, e)
		}
		first := unfit[rng.Intn(len(unfit))]
		_, want := typesByTrial(decls, first)
		p.Rules = append(p.Rules, first, fit[rng.Intn(len(fit))], unfit[rng.Intn(len(unfit))])
		if line, e := dtype.Check(p); line != first.Line || e != want {
			t.Fatalf("%v: %d, %d, not %d, %d", p.Rules, line, e, first.Line, want)
		}
	}
}

func renamed(t api.Term, to map[string]string) api.Term {
	if t.Op == api.OVar {
		t.S = to[t.S]
	}
	var l []api.Term
	for _, part := range t.L {
		l = append(l, renamed(part, to))
	}
	t.L = l
	return t
}

func renamedAtom(a api.Atom, to map[string]string) api.Atom {
	return api.Atom{Rel: a.Rel, L: renamed(api.Term{L: a.L}, to).L}
}

// P5.4
func TestNeitherPartsOrderNorNamesMakeADifference(t *testing.T) {
	rng := rand.New(rand.NewSource(8))
	decls := relations(t)
	fits := 0
	for range 20000 {
		r := aRule(rng, decls)
		to := map[string]string{}
		for i, k := range rng.Perm(len(names)) {
			to[names[i]] = []string{"x", "v0", "count", "__", "v3"}[k]
		}
		other := api.Rule{Head: renamedAtom(r.Head, to)}
		for _, k := range rng.Perm(len(r.Body)) {
			l := r.Body[k]
			other.Body = append(other.Body, api.Lit{Op: l.Op, A: renamedAtom(l.A, to), X: renamed(l.X, to), Y: renamed(l.Y, to)})
		}
		a, e := dtype.Types(decls, r)
		b, f := dtype.Types(decls, other)
		if (e == api.OK) != (f == api.OK) || (e == api.ErrType) != (f == api.ErrType) {
			t.Fatalf("%v: %d; %v: %d", r, e, other, f)
		}
		if e != api.OK {
			continue
		}
		fits++
		kinds := map[string]int{}
		for i, name := range dtype.Vars(other) {
			kinds[name] = b[i]
		}
		for i, name := range dtype.Vars(r) {
			if a[i] != kinds[to[name]] {
				t.Fatalf("%v: %v; %v: %v", r, a, other, b)
			}
		}
	}
	if fits < 1000 {
		t.Errorf("%d fit", fits)
	}
}
