package cover_test

import (
	"cmp"
	"fmt"
	"math/bits"
	"math/rand"
	"slices"
	"strconv"
	"strings"
	"testing"

	"sorites/api"
	"sorites/cover"
	"sorites/dsafe"
	"sorites/dtree"
	"sorites/query"
)

// apart tells whether none of two sets, told by their bits, is within the
// other one.
func apart(a, b int) bool { return a&^b != 0 && b&^a != 0 }

// P12.2, P12.3, P12.4: all sets of sets of four columns. As many sets as the
// most that are apart are the least orders, for no order serves two of these.
func TestAllSetsOfFourColumns(t *testing.T) {
	all := ofSize(4, 1, 2, 3, 4)
	most := make([]int, 1<<15)
	for chosen := range most {
		var sets [][]int
		isApart := true
		for k := range 15 {
			if chosen>>k&1 == 0 {
				continue
			}
			sets = append(sets, all[k])
			most[chosen] = max(most[chosen], most[chosen&^(1<<k)])
			for n := range k {
				isApart = isApart && (chosen>>n&1 == 0 || apart(k+1, n+1))
			}
		}
		if isApart {
			most[chosen] = len(sets)
		}
		if got := tryOrders(t, 4, sets); got != max(most[chosen], 1) {
			t.Fatalf("%v: %d, not %d", sets, got, most[chosen])
		}
	}
}

// someSets are n sets of some columns, in any order.
func someSets(rng *rand.Rand, cols, n int) [][]int {
	var sets [][]int
	for _, k := range rng.Perm(1<<cols - 1)[:min(n, 1<<cols-1)] {
		sets = append(sets, setOf(k+1))
	}
	return sets
}

// areApart tells whether n of some sets are apart, each two of them: that one
// that is apart from the fewest is one of them, or not.
func areApart(sets []int, n int) bool {
	if n <= 0 || len(sets) < n {
		return n <= 0
	}
	fewest := slices.MinFunc(sets, func(a, b int) int { return cmp.Compare(near(sets, a), near(sets, b)) })
	with := slices.DeleteFunc(slices.Clone(sets), func(s int) bool { return !apart(s, fewest) })
	without := slices.DeleteFunc(slices.Clone(sets), func(s int) bool { return s == fewest })
	return areApart(with, n-1) || near(sets, fewest) > 2 && areApart(without, n)
}

// near is from how many sets, itself too, one is not apart.
func near(sets []int, a int) int {
	n := 0
	for _, b := range sets {
		if !apart(a, b) {
			n++
		}
	}
	return n
}

// P12.2, P12.3, P12.4
func TestLeastByChance(t *testing.T) {
	rng := rand.New(rand.NewSource(12))
	met := map[int]int{}
	for range 4000 {
		cols := 3 + rng.Intn(6)
		sets := someSets(rng, cols, rng.Intn(61))
		least := tryOrders(t, cols, sets)
		var asBits []int
		for _, set := range sets {
			b := 0
			for _, c := range set {
				b |= 1 << c
			}
			asBits = append(asBits, b)
		}
		if len(sets) > 0 && !areApart(asBits, least) {
			t.Fatalf("%d, %v: %d", cols, sets, least)
		}
		met[least]++
		slices.Reverse(sets)
		again, _ := cover.Least(cols, sets)
		more, _ := cover.Least(api.MaxCols, sets)
		if again != least || more != least {
			t.Fatalf("%d, %v: %d, the other way round %d, of more columns %d", cols, sets, least, again, more)
		}
	}
	if len(met) < 25 {
		t.Errorf("%v", met)
	}
}

// R4
func TestAnswersAreTheSameAgain(t *testing.T) {
	rng := rand.New(rand.NewSource(121))
	for range 500 {
		cols := 3 + rng.Intn(6)
		sets := someSets(rng, cols, rng.Intn(61))
		want, _ := cover.Orders(cols, sets)
		p := aProgram(t, rng)
		asked, _ := cover.Sets(p, 0)
		for range 3 {
			if got, _ := cover.Orders(cols, sets); !same(got, want) {
				t.Fatalf("%d, %v: %v, again %v", cols, sets, want, got)
			}
			if got, _ := cover.Sets(p, 0); !same(got, asked) {
				t.Fatalf("%s: %v, again %v", shown(p), asked, got)
			}
		}
	}
}

func shown(p api.Prog) string {
	s, _ := dtree.Show(p)
	return s
}

func one(rng *rand.Rand, l ...string) string { return l[rng.Intn(len(l))] }

func anAtom(rng *rand.Rand) string {
	n := 1 + rng.Intn(4)
	var args []string
	for range n {
		args = append(args, one(rng, "x", "y", "z", "w", "x", "y", "_", "_", "1", "x + 1", "y * z"))
	}
	return "r" + strconv.Itoa(n) + "(" + strings.Join(args, ", ") + ")"
}

func aPart(rng *rand.Rand) string {
	switch rng.Intn(8) {
	case 0:
		return "!" + anAtom(rng)
	case 1:
		return one(rng, "x", "y", "z", "w", "2") + " = count : { " + anAtom(rng) + " }"
	case 2:
		return one(rng, "x", "y", "z", "w", "2") + one(rng, " = sum ", " = max ") + one(rng, "x", "y", "z", "w") + " : { " + anAtom(rng) + " }"
	case 3:
		return one(rng, "x", "y", "z", "w") + one(rng, " = ", " = ", " < ") + one(rng, "x", "y", "z", "w", "3", "x + y")
	}
	return anAtom(rng)
}

// aProgram has relations r1 to r4 of so many numbers, and some safe rules.
func aProgram(t *testing.T, rng *rand.Rand) api.Prog {
	t.Helper()
	p := read(t, ".decl r2(a: number, b: number) .decl r4(a: number, b: number, c: number, d: number) .decl r1(a: number) .decl r3(a: number, b: number, c: number)")
	for n := 1 + rng.Intn(5); len(p.Rules) < n; {
		var parts []string
		for range 1 + rng.Intn(5) {
			parts = append(parts, aPart(rng))
		}
		longer := p
		longer.Rules = append(slices.Clone(p.Rules), read(t, one(rng, "r1(x)", "r1(2)", "r2(x, 3)")+" :- "+strings.Join(parts, ", ")+".").Rules...)
		if _, e := dsafe.Check(longer); e == api.OK {
			p = longer
		}
	}
	return p
}

// setsByWords holds each set there can be against the steps of all rules.
func setsByWords(t *testing.T, p api.Prog, rel int) [][]int {
	t.Helper()
	var steps []api.Step
	for k := range p.Rules {
		q, e := query.Of(p, k)
		if e != api.OK {
			t.Fatal(e)
		}
		steps = append(steps, q.Steps...)
	}
	var sets [][]int
	for size := 1; size <= api.MaxCols; size++ {
		ofIt := ofSize(len(p.Decls[rel].Names), size)
		slices.SortFunc(ofIt, slices.Compare)
		for _, set := range ofIt {
			if slices.ContainsFunc(steps, func(s api.Step) bool {
				isOfOne := s.Op == api.SScan || s.Op == api.SNone || s.Op == api.SFold
				return isOfOne && s.Rel == rel && slices.Equal(s.Cols, set)
			}) {
				sets = append(sets, set)
			}
		}
	}
	return sets
}

// P12.1
func TestSetsByWords(t *testing.T) {
	rng := rand.New(rand.NewSource(122))
	met := map[string]int{}
	for range 1500 {
		p := aProgram(t, rng)
		for rel := range p.Decls {
			got, e := cover.Sets(p, rel)
			if want := setsByWords(t, p, rel); !same(got, want) || e != api.OK {
				t.Fatalf("%s: relation %d: %v, %d, not %v", shown(p), rel, got, e, want)
			}
			met[fmt.Sprint(got)]++
			if n := tryOrders(t, len(p.Decls[rel].Names), got); n > max(len(got), 1) {
				t.Fatalf("%s: relation %d: %v: %d", shown(p), rel, got, n)
			}
		}
	}
	if len(met) < 100 {
		t.Errorf("%d", len(met))
	}
}

// less holds rows, told by their columns' bits, against each other in an order.
func less(order []int, a, b int) int {
	for _, c := range order {
		if x, y := a>>c&1, b>>c&1; x != y {
			return cmp.Compare(x, y)
		}
	}
	return 0
}

// T4: where an order serves a set, and there alone, rows that have the same
// values in the set's columns stand together in that order.
func TestRowsStandTogether(t *testing.T) {
	for cols := 1; cols <= 4; cols++ {
		for _, order := range allOrders(cols) {
			rows := make([]int, 1<<cols)
			for k := range rows {
				rows[k] = k
			}
			slices.SortFunc(rows, func(a, b int) int { return less(order, a, b) })
			for s := range 1 << cols {
				runs := 1
				for k := 1; k < len(rows); k++ {
					if rows[k]&s != rows[k-1]&s {
						runs++
					}
				}
				areTogether := runs == 1<<bits.OnesCount(uint(s))
				if cover.Serves(order, setOf(s)) != areTogether {
					t.Errorf("%v serves %v: rows together %v", order, setOf(s), areTogether)
				}
			}
		}
	}
}
