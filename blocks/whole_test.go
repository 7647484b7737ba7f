package blocks_test

import (
	"fmt"
	"math/rand"
	"reflect"
	"slices"
	"strings"
	"testing"

	"sorites/api"
	"sorites/blocks"
	"sorites/dgraph"
	"sorites/dsafe"
	"sorites/dtree"
	"sorites/dtype"
	"sorites/model"
	"sorites/query"
	"sorites/rel"
)

// What is made here are programs by chance, typed and safe, of these
// relations, and rows of few values.

const chanceDecls = `.decl d(x: symbol)
.decl b(x: number, y: number)
.decl c(x: symbol, y: number)
.decl a(x: number)
.decl h(x: number, y: number)
.decl f(x: number, y: number, z: number)
`

func one(rng *rand.Rand, l ...string) string { return l[rng.Intn(len(l))] }

func aNumber(rng *rand.Rand) string {
	return one(rng, "x", "x", "x", "y", "y", "y", "z", "z", "w", "1", "2")
}

func aSymbol(rng *rand.Rand) string { return one(rng, "u", "u", "u", "v", `"a"`) }

func anAtom(rng *rand.Rand, isHead bool) string {
	name := one(rng, "a", "b", "b", "b", "h", "h", "c", "c", "d", "f")
	var args []string
	for _, kind := range map[string]string{"a": "n", "b": "nn", "c": "sn", "d": "s", "f": "nnn", "h": "nn"}[name] {
		switch {
		case !isHead && rng.Intn(8) == 0:
			args = append(args, "_")
		case kind == 's':
			args = append(args, aSymbol(rng))
		case !isHead && rng.Intn(8) == 0:
			args = append(args, aNumber(rng)+one(rng, " + ", " * ")+aNumber(rng))
		default:
			args = append(args, aNumber(rng))
		}
	}
	return name + "(" + strings.Join(args, ", ") + ")"
}

func aPart(rng *rand.Rand) string {
	switch rng.Intn(12) {
	case 0:
		return "!" + anAtom(rng, false)
	case 1:
		return aNumber(rng) + one(rng, " < ", " <= ", " != ") + aNumber(rng)
	case 2:
		return aNumber(rng) + " = " + one(rng, "x", "y", "x + 1", "y * z")
	case 3:
		return aNumber(rng) + one(rng, " = count : { ", " = sum z : { ", " = max w : { ", " = min y : { ") + anAtom(rng, false) + " }"
	}
	return anAtom(rng, false)
}

func aRule(rng *rand.Rand) string {
	if rng.Intn(8) == 0 {
		return one(rng, "a(1)", "b(2, 1)", "h(1, 0)", `c("a", 1)`, `d("b")`, "f(1, 1, 2)") + ".\n"
	}
	var parts []string
	for range 1 + rng.Intn(4) {
		parts = append(parts, aPart(rng))
	}
	return anAtom(rng, true) + " :- " + strings.Join(parts, ", ") + ".\n"
}

func isSafe(p api.Prog) bool {
	_, e := dsafe.Check(p)
	return e == api.OK
}

func isLayered(p api.Prog) bool {
	_, _, e := dgraph.Groups(p)
	return e == api.OK
}

// aProgram has at most so many rules.
func aProgram(t *testing.T, rng *rand.Rand, most int, isFit func(api.Prog) bool) api.Prog {
	t.Helper()
	p := read(t, chanceDecls)
	for n := rng.Intn(most + 1); len(p.Rules) < n; {
		longer := p
		longer.Rules = append(slices.Clone(p.Rules), read(t, aRule(rng)).Rules...)
		if isFit(longer) {
			p = longer
		}
	}
	return p
}

func shown(p api.Prog) string {
	s, _ := dtree.Show(p)
	return s
}

// What follows is what the chapter says, word by word.

// headIn tells whether the head of a rule is of a group.
func headIn(p api.Prog, k int, group []int) bool {
	at, _ := dtype.Find(p.Decls, p.Rules[k].Head.Rel)
	return slices.Contains(group, at)
}

func blockByWords(t *testing.T, p api.Prog, group []int) api.Block {
	t.Helper()
	b := api.Block{Rels: group}
	for k := range p.Rules {
		isRecursive, e := dgraph.Recursive(p, k)
		if e != api.OK {
			t.Fatal(e)
		}
		if headIn(p, k, group) && !isRecursive {
			b.Once = append(b.Once, queryOf(t, p, k, -1))
		}
		if !headIn(p, k, group) || !isRecursive {
			continue
		}
		for at, s := range queryOf(t, p, k, -1).Steps {
			if s.Op == api.SScan && slices.Contains(group, s.Rel) {
				b.Loop = append(b.Loop, queryOf(t, p, k, at))
			}
		}
	}
	return b
}

func readsByWords(q api.Query) []int {
	rels := map[int]int{}
	for _, s := range q.Steps {
		if s.Op == api.SHold || s.Op == api.SLet {
			continue
		}
		rels[s.Rel]++
	}
	var l []int
	for r := range rels {
		l = append(l, r)
	}
	slices.Sort(l)
	return l
}

// P13.1
func TestOfByWords(t *testing.T) {
	rng := rand.New(rand.NewSource(13))
	once, loop, mutual := 0, 0, 0
	for range 1500 {
		p := aProgram(t, rng, 8, isLayered)
		groups, _, _ := dgraph.Groups(p)
		var want []api.Block
		for _, group := range groups {
			want = append(want, blockByWords(t, p, group))
		}
		got, e := blocks.Of(p)
		if e != api.OK || toldOf(bare(got)) != toldOf(bare(want)) {
			t.Fatalf("%s: %v, %d, not %v", shown(p), got, e, want)
		}
		for _, b := range got {
			once += len(b.Once)
			loop += len(b.Loop)
			if len(b.Rels) > 1 {
				mutual++
			}
		}
	}
	if once < 1500 || loop < 1500 || mutual < 150 {
		t.Errorf("%d queries once, %d again and again, %d groups of some relations", once, loop, mutual)
	}
}

// P13.1: a program that is not layered is the one that dgraph.Groups says.
func TestErrorsByWords(t *testing.T) {
	rng := rand.New(rand.NewSource(131))
	met := map[api.Errno]int{}
	for range 5000 {
		p := aProgram(t, rng, 6, isSafe)
		if n := len(p.Rules); n > 0 && rng.Intn(4) == 0 {
			spoil(rng, &p.Rules[rng.Intn(n)])
		}
		_, _, want := dgraph.Groups(p)
		l, e := blocks.Of(p)
		if e != want || e != api.OK && len(l) != 0 {
			t.Fatalf("%s: %v, %d, not %d", shown(p), l, e, want)
		}
		met[e]++
	}
	if len(met) < 7 || met[api.ErrStrat] < 300 || met[api.ErrInvent] < 100 || met[api.OK] < 300 {
		t.Errorf("%v", met)
	}
}

// spoil makes a rule wrong, if that can be.
func spoil(rng *rand.Rand, r *api.Rule) {
	switch rng.Intn(5) {
	case 0:
		r.Head.Rel = "nothing"
	case 1:
		r.Head.L = append(slices.Clone(r.Head.L), api.Term{Op: api.OInt})
	case 2:
		r.Head.L = slices.Repeat([]api.Term{{Op: api.OVar, S: "who"}}, len(r.Head.L))
	case 3:
		r.Head.L = slices.Repeat([]api.Term{{Op: api.OSym, S: "who"}}, len(r.Head.L))
	case 4:
		r.Body = append(slices.Clone(r.Body), api.Lit{})
	}
}

// P13.1
func TestReadsByWords(t *testing.T) {
	rng := rand.New(rand.NewSource(132))
	for range 5000 {
		var q api.Query
		for range rng.Intn(9) {
			q.Steps = append(q.Steps, api.Step{Op: rng.Intn(9) - 1, Rel: rng.Intn(9) - 2})
		}
		if got := blocks.Reads(q); !slices.Equal(got, readsByWords(q)) {
			t.Fatalf("%v: %v", q.Steps, got)
		}
	}
}

// P13.2
func TestWhatBlocksRead(t *testing.T) {
	rng := rand.New(rand.NewSource(133))
	for range 1500 {
		p := aProgram(t, rng, 8, isLayered)
		l, _ := blocks.Of(p)
		ahead := map[int]int{}
		found := map[string]int{}
		for _, b := range l {
			for _, r := range b.Rels {
				ahead[r]++
			}
			for _, q := range append(slices.Clone(b.Once), b.Loop...) {
				if !slices.Contains(b.Rels, q.Rel) {
					t.Fatalf("%s: %v", shown(p), b)
				}
				for _, r := range blocks.Reads(q) {
					if ahead[r] == 0 {
						t.Fatalf("%s: %v reads %d", shown(p), b, r)
					}
				}
				if q.Delta >= 0 && !slices.Contains(b.Rels, q.Steps[q.Delta].Rel) {
					t.Fatalf("%s: %v: step %d is on new ones", shown(p), b, q.Delta)
				}
			}
			tryFound(t, p, b, found)
		}
		for k := range p.Rules {
			q := queryOf(t, p, k, -1)
			if found[toldOf(bare(q))] != 1 {
				t.Fatalf("%s: rule %d is in %d blocks", shown(p), k, found[toldOf(bare(q))])
			}
		}
		if len(ahead) != len(p.Decls) {
			t.Fatalf("%s: %v", shown(p), l)
		}
	}
}

// tryFound counts for each rule's query in how many blocks it is, and that it
// is among those of one kind alone.
func tryFound(t *testing.T, p api.Prog, b api.Block, found map[string]int) {
	t.Helper()
	inOnce, inLoop := map[string]int{}, map[string]int{}
	for _, q := range b.Once {
		inOnce[toldOf(bare(q))]++
	}
	for _, q := range b.Loop {
		q.Delta = -1
		inLoop[toldOf(bare(q))]++
	}
	for q := range inOnce {
		found[q]++
	}
	for q := range inLoop {
		found[q]++
		if inOnce[q] > 0 {
			t.Fatalf("%s: %v: %s is run once, and again", shown(p), b, q)
		}
	}
}

func someRows(rng *rand.Rand, p api.Prog) [][][]api.Val {
	var in [][][]api.Val
	for _, d := range p.Decls {
		var l [][]api.Val
		for range rng.Intn(7) {
			var r []api.Val
			for _, kind := range d.Types {
				if kind == api.TNum {
					r = append(r, api.Val{N: int64(rng.Intn(4))})
				} else {
					r = append(r, api.Val{Sym: true, S: one(rng, "a", "b", "")})
				}
			}
			l = append(l, r)
		}
		in = append(in, rel.Sort(l))
	}
	return in
}

// lay runs some queries, each on the new rows of the step that is on these, and
// lays what they give to all rows: it tells what was not there as yet.
func lay(t *testing.T, p api.Prog, queries []api.Query, all, fresh [][][]api.Val) [][][]api.Val {
	t.Helper()
	given := make([][][]api.Val, len(p.Decls))
	for _, q := range queries {
		var delta [][]api.Val
		if q.Delta >= 0 {
			delta = fresh[q.Steps[q.Delta].Rel]
		}
		l, e := query.Run(p, q, all, delta)
		if e != api.OK {
			t.Fatalf("%s: %v: %d", shown(p), q, e)
		}
		given[q.Rel] = rel.Sort(append(given[q.Rel], l...))
	}
	for k := range given {
		given[k], _ = rel.Minus(given[k], all[k])
		all[k], _ = rel.Union(all[k], given[k])
	}
	return given
}

func count(in [][][]api.Val) int { return len(slices.Concat(in...)) }

// P13.2: that blocks are in order, and what they go through as new is enough,
// is seen in what comes of it: the model.
func TestBlocksMakeTheModel(t *testing.T) {
	rng := rand.New(rand.NewSource(134))
	most := 0
	for range 1500 {
		p := aProgram(t, rng, 7, isLayered)
		in := someRows(rng, p)
		want, e := model.Eval(p, in, 100000)
		if e != api.OK {
			t.Fatal(shown(p), e)
		}
		l, _ := blocks.Of(p)
		all := slices.Clone(in)
		for _, b := range l {
			lay(t, p, b.Once, all, nil)
			fresh := slices.Clone(all)
			rounds := 0
			for len(b.Loop) > 0 && count(fresh) > 0 {
				fresh = lay(t, p, b.Loop, all, fresh)
				rounds++
			}
			most = max(most, rounds)
		}
		if fmt.Sprint(all) != fmt.Sprint(want) {
			t.Fatalf("%s of %v: %v, not %v", shown(p), in, all, want)
		}
	}
	if most < 4 {
		t.Errorf("%d rounds at most", most)
	}
}

// R4
func TestAnswersAreTheSameAgain(t *testing.T) {
	rng := rand.New(rand.NewSource(135))
	for range 300 {
		p := aProgram(t, rng, 8, isSafe)
		want, wantErr := blocks.Of(p)
		for range 3 {
			got, e := blocks.Of(p)
			if !reflect.DeepEqual(got, want) || e != wantErr {
				t.Fatalf("%s: %v, %d, again %v, %d", shown(p), want, wantErr, got, e)
			}
		}
		for _, b := range want {
			for _, q := range append(b.Once, b.Loop...) {
				if !slices.Equal(blocks.Reads(q), blocks.Reads(q)) {
					t.Fatal(q)
				}
			}
		}
	}
}
