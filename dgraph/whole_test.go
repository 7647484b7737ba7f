package dgraph_test

import (
	"math/rand"
	"reflect"
	"slices"
	"strconv"
	"strings"
	"testing"

	"sorites/api"
	"sorites/dgraph"
	"sorites/dsafe"
	"sorites/dtree"
)

// What is made here are programs by chance, that are right and safe, of at
// most six relations.

func aName(rng *rand.Rand, n int) string { return string("abcdef"[rng.Intn(n)]) }

// aPart needs x alone, which is bound, and binds y or z, if anything. What an
// aggregate has of its own no other part may name, lest it be outer.
func aPart(rng *rand.Rand, n int, own string) string {
	rel := aName(rng, n)
	switch rng.Intn(14) {
	case 0:
		return "!" + rel + "(x)"
	case 1:
		return "y = count : { " + rel + "(_) }"
	case 2:
		return "z = " + []string{"sum", "min", "max"}[rng.Intn(3)] + " " + own + " : { " + rel + "(" + own + ") }"
	case 3:
		return "y = x + 1"
	case 4:
		return "y = x"
	case 5:
		return "x < 3"
	}
	return rel + "(" + []string{"x", "y", "_", "x * 2"}[rng.Intn(4)] + ")"
}

func aRule(rng *rand.Rand, n int) string {
	head := aName(rng, n)
	if rng.Intn(8) == 0 {
		return head + "(1)."
	}
	parts := []string{aName(rng, n) + "(x)"}
	for k := range rng.Intn(3) {
		parts = append(parts, aPart(rng, n, "own"+strconv.Itoa(k)))
	}
	rng.Shuffle(len(parts), func(i, k int) { parts[i], parts[k] = parts[k], parts[i] })
	return head + "(x) :- " + strings.Join(parts, ", ") + "."
}

func aProgram(t *testing.T, rng *rand.Rand) api.Prog {
	t.Helper()
	n := 1 + rng.Intn(6)
	var s strings.Builder
	for k := range n {
		s.WriteString(".decl " + string("abcdef"[k]) + "(x: number)\n")
	}
	for range rng.Intn(10) {
		s.WriteString(aRule(rng, n) + "\n")
	}
	p := read(t, s.String())
	if line, e := dsafe.Check(p); e != api.OK {
		t.Fatalf("%s: %d, %d", s.String(), line, e)
	}
	return p
}

func shown(p api.Prog) string {
	s, _ := dtree.Show(p)
	return s
}

// What follows is what the document says, on squares of trues.

func hasAtom(l api.Lit) bool { return l.Op < api.LEq || l.Op > api.LLe }

func hangsByWords(p api.Prog, a, b int) bool {
	for _, r := range p.Rules {
		for _, l := range r.Body {
			if r.Head.Rel == p.Decls[a].Rel && hasAtom(l) && l.A.Rel == p.Decls[b].Rel {
				return true
			}
		}
	}
	return false
}

// waysByWords tell which relations hang on which ones over whichever others.
func waysByWords(p api.Prog) [][]bool {
	n := len(p.Decls)
	ways := make([][]bool, n)
	for a := range n {
		ways[a] = make([]bool, n)
		for b := range n {
			ways[a][b] = hangsByWords(p, a, b)
		}
	}
	for over := range n {
		for a := range n {
			for b := range n {
				ways[a][b] = ways[a][b] || ways[a][over] && ways[over][b]
			}
		}
	}
	return ways
}

func mutualByWords(ways [][]bool, a, b int) bool { return a == b || ways[a][b] && ways[b][a] }

func mutualNames(p api.Prog, ways [][]bool, a, b string) bool {
	return mutualByWords(ways, place(a), place(b))
}

func recursiveByWords(p api.Prog, ways [][]bool, r api.Rule) bool {
	return slices.ContainsFunc(r.Body, func(l api.Lit) bool {
		return l.Op == api.LAtom && mutualNames(p, ways, r.Head.Rel, l.A.Rel)
	})
}

func layeredByWords(p api.Prog, ways [][]bool) (int, api.Errno) {
	for _, r := range p.Rules {
		for _, l := range r.Body {
			if hasAtom(l) && l.Op != api.LAtom && mutualNames(p, ways, r.Head.Rel, l.A.Rel) {
				return r.Line, api.ErrStrat
			}
		}
		if invents, _ := dsafe.Invents(r); invents && recursiveByWords(p, ways, r) {
			return r.Line, api.ErrInvent
		}
	}
	return 0, api.OK
}

// groupsByWords takes group by group from those that are left.
func groupsByWords(ways [][]bool) [][]int {
	var left, groups [][]int
	for a := range ways {
		var group []int
		for b := range ways {
			if mutualByWords(ways, a, b) {
				group = append(group, b)
			}
		}
		if group[0] == a {
			left = append(left, group)
		}
	}
	for len(left) > 0 {
		next := slices.IndexFunc(left, func(group []int) bool {
			return !slices.ContainsFunc(left, func(other []int) bool {
				return group[0] != other[0] && ways[group[0]][other[0]]
			})
		})
		groups = append(groups, left[next])
		left = slices.Delete(left, next, next+1)
	}
	return groups
}

// P7.1
func TestWhatHangsOnWhatByWords(t *testing.T) {
	rng := rand.New(rand.NewSource(7))
	mutual, recursive := 0, 0
	for range 1500 {
		p := aProgram(t, rng)
		ways := waysByWords(p)
		for a := range p.Decls {
			for b := range p.Decls {
				if got, e := dgraph.Hangs(p, a, b); got != hangsByWords(p, a, b) || e != api.OK {
					t.Fatalf("%s: Hangs %d, %d: %v, %d", shown(p), a, b, got, e)
				}
				want := mutualByWords(ways, a, b)
				if got, e := dgraph.Mutual(p, a, b); got != want || e != api.OK {
					t.Fatalf("%s: Mutual %d, %d: %v, %d", shown(p), a, b, got, e)
				}
				if want && a != b {
					mutual++
				}
			}
		}
		for k, r := range p.Rules {
			want := recursiveByWords(p, ways, r)
			if got, e := dgraph.Recursive(p, k); got != want || e != api.OK {
				t.Fatalf("%s: Recursive %d: %v, %d", shown(p), k, got, e)
			}
			if want {
				recursive++
			}
		}
	}
	if mutual < 1000 || recursive < 1000 {
		t.Errorf("%d mutual, %d recursive", mutual, recursive)
	}
}

// P7.2
func TestGroupsByWords(t *testing.T) {
	rng := rand.New(rand.NewSource(8))
	layered, moved, large := 0, 0, 0
	met := map[api.Errno]int{}
	for range 20000 {
		p := aProgram(t, rng)
		ways := waysByWords(p)
		wantLine, wantErr := layeredByWords(p, ways)
		var want [][]int
		if wantErr == api.OK {
			want = groupsByWords(ways)
		}
		got, line, e := dgraph.Groups(p)
		if !reflect.DeepEqual(got, want) || line != wantLine || e != wantErr {
			t.Fatalf("%s: %v, %d, %d, not %v, %d, %d", shown(p), got, line, e, want, wantLine, wantErr)
		}
		met[e]++
		if e != api.OK {
			continue
		}
		layered++
		if !slices.IsSorted(slices.Concat(got...)) {
			moved++
		}
		if len(got) < len(p.Decls) {
			large++
		}
	}
	if layered < 3000 || moved < 1000 || large < 1000 || met[api.ErrStrat] < 1000 || met[api.ErrInvent] < 1000 {
		t.Errorf("%d layered, %d of another order, %d with groups of some; %v", layered, moved, large, met)
	}
}

// P7.3
func TestEachGroupHangsOnItselfAndThoseAhead(t *testing.T) {
	rng := rand.New(rand.NewSource(9))
	for range 1500 {
		p := aProgram(t, rng)
		groups, _, e := dgraph.Groups(p)
		if e != api.OK {
			continue
		}
		ahead := map[int]int{}
		for _, group := range groups {
			for _, a := range group {
				ahead[a]++
			}
			for _, a := range group {
				for b := range p.Decls {
					if hangs, _ := dgraph.Hangs(p, a, b); hangs && ahead[b] == 0 {
						t.Fatalf("%s: %v: %d hangs on %d", shown(p), groups, a, b)
					}
				}
			}
		}
		for a := range p.Decls {
			if ahead[a] != 1 || len(ahead) != len(p.Decls) {
				t.Fatalf("%s: %v: %d is in %d", shown(p), groups, a, ahead[a])
			}
		}
	}
}

// P7.3
func TestRulesInAnotherOrderMakeTheSameGroups(t *testing.T) {
	rng := rand.New(rand.NewSource(10))
	for range 5000 {
		p := aProgram(t, rng)
		groups, _, e := dgraph.Groups(p)
		rules := slices.Clone(p.Rules)
		rng.Shuffle(len(rules), func(i, k int) { rules[i], rules[k] = rules[k], rules[i] })
		got, _, other := dgraph.Groups(api.Prog{Decls: p.Decls, Rules: rules})
		if !reflect.DeepEqual(got, groups) || (e == api.OK) != (other == api.OK) {
			t.Fatalf("%s: %v, %d, in another order %v, %d", shown(p), groups, e, got, other)
		}
	}
}

// R4: answers do not hang on the order in which maps are gone through.
func TestAnswersAreTheSameAgain(t *testing.T) {
	p := ring(t, true)
	want, _, _ := dgraph.Groups(p)
	for range 20 {
		if got, _, e := dgraph.Groups(p); !reflect.DeepEqual(got, want) || e != api.OK {
			t.Fatalf("%v, %d, not %v", got, e, want)
		}
	}
}
