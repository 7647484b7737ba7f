package ram_test

import (
	"math"
	"math/rand"
	"reflect"
	"slices"
	"strings"
	"testing"

	"sorites/api"
	"sorites/blocks"
	"sorites/dgraph"
	"sorites/dsafe"
	"sorites/dtree"
	"sorites/dtype"
	"sorites/model"
	"sorites/query"
	"sorites/ram"
	"sorites/rel"
)

// What is made here are programs by chance, typed and safe, of these
// relations, and rows of few values.

const chanceDecls = `.decl d(x: symbol)
.decl b(x: number, y: number)
.decl c(x: symbol, y: number)
.decl a(x: number)
.decl h(x: number, y: number)
.decl f(x: number, y: number, z: number)
`

func one(rng *rand.Rand, l ...string) string { return l[rng.Intn(len(l))] }

func aNumber(rng *rand.Rand) string {
	return one(rng, "x", "x", "x", "y", "y", "y", "z", "z", "w", "1", "2")
}

func aSymbol(rng *rand.Rand) string { return one(rng, "u", "u", "u", "v", `"a"`) }

func anAtom(rng *rand.Rand, isHead bool) string {
	name := one(rng, "a", "b", "b", "b", "h", "h", "c", "c", "d", "f")
	var args []string
	for _, kind := range map[string]string{"a": "n", "b": "nn", "c": "sn", "d": "s", "f": "nnn", "h": "nn"}[name] {
		switch {
		case !isHead && rng.Intn(8) == 0:
			args = append(args, "_")
		case kind == 's':
			args = append(args, aSymbol(rng))
		case !isHead && rng.Intn(8) == 0:
			args = append(args, aNumber(rng)+one(rng, " + ", " * ")+aNumber(rng))
		default:
			args = append(args, aNumber(rng))
		}
	}
	return name + "(" + strings.Join(args, ", ") + ")"
}

func aPart(rng *rand.Rand) string {
	switch rng.Intn(12) {
	case 0:
		return "!" + anAtom(rng, false)
	case 1:
		return aNumber(rng) + one(rng, " < ", " <= ", " != ") + aNumber(rng)
	case 2:
		return aNumber(rng) + " = " + one(rng, "x", "y", "x + 1", "y * z")
	case 3:
		return aNumber(rng) + one(rng, " = count : { ", " = sum z : { ", " = max w : { ", " = min y : { ") + anAtom(rng, false) + " }"
	}
	return anAtom(rng, false)
}

func aRule(rng *rand.Rand) string {
	if rng.Intn(8) == 0 {
		return one(rng, "a(1)", "b(2, 1)", "h(1, 0)", `c("a", 1)`, `d("b")`, "f(1, 1, 2)") + ".\n"
	}
	var parts []string
	for range 1 + rng.Intn(4) {
		parts = append(parts, aPart(rng))
	}
	return anAtom(rng, true) + " :- " + strings.Join(parts, ", ") + ".\n"
}

func isSafe(p api.Prog) bool {
	_, e := dsafe.Check(p)
	return e == api.OK
}

func isLayered(p api.Prog) bool {
	_, _, e := dgraph.Groups(p)
	return e == api.OK
}

// aProgram has at most so many rules.
func aProgram(t *testing.T, rng *rand.Rand, most int, isFit func(api.Prog) bool) api.Prog {
	t.Helper()
	p := read(t, chanceDecls)
	for n := rng.Intn(most + 1); len(p.Rules) < n; {
		longer := p
		longer.Rules = append(slices.Clone(p.Rules), read(t, aRule(rng)).Rules...)
		if isFit(longer) {
			p = longer
		}
	}
	return p
}

func shown(p api.Prog) string {
	s, _ := dtree.Show(p)
	return s
}

func someRows(rng *rand.Rand, p api.Prog) [][][]api.Val {
	var in [][][]api.Val
	for _, d := range p.Decls {
		var l [][]api.Val
		for range rng.Intn(7) {
			var r []api.Val
			for _, kind := range d.Types {
				if kind == api.TNum {
					r = append(r, api.Val{N: int64(rng.Intn(4))})
				} else {
					r = append(r, api.Val{Sym: true, S: one(rng, "a", "b", "")})
				}
			}
			l = append(l, r)
		}
		in = append(in, rel.Sort(l))
	}
	return in
}

// What follows is what the chapter says, word by word.

func giveOf(t *testing.T, p api.Prog, q api.Query, all, fresh [][][]api.Val) [][]api.Val {
	t.Helper()
	var delta [][]api.Val
	if q.Delta >= 0 {
		delta = fresh[q.Steps[q.Delta].Rel]
	}
	l, e := query.Run(p, q, all, delta)
	if e != api.OK {
		t.Fatalf("%s: %v: %d", shown(p), q, e)
	}
	return l
}

// lay lays what queries give to all rows, and tells what was not there as yet.
func lay(t *testing.T, p api.Prog, queries []api.Query, all, fresh [][][]api.Val) [][][]api.Val {
	t.Helper()
	given := make([][][]api.Val, len(p.Decls))
	for _, q := range queries {
		given[q.Rel] = append(given[q.Rel], giveOf(t, p, q, all, fresh)...)
	}
	for k := range given {
		given[k], _ = rel.Minus(rel.Sort(given[k]), all[k])
		all[k], _ = rel.Union(all[k], given[k])
	}
	return given
}

func runByWords(t *testing.T, p api.Prog, in [][][]api.Val) ([][][]api.Val, []int) {
	t.Helper()
	l, e := blocks.Of(p)
	if e != api.OK {
		t.Fatal(shown(p), e)
	}
	all, rounds := slices.Clone(in), []int(nil)
	for _, b := range l {
		lay(t, p, b.Once, all, nil)
		fresh := make([][][]api.Val, len(all))
		for _, k := range b.Rels {
			fresh[k] = all[k]
		}
		n := 0
		for len(b.Loop) > 0 && count(fresh) > 0 {
			fresh = lay(t, p, b.Loop, all, fresh)
			n++
		}
		rounds = append(rounds, n)
	}
	return all, rounds
}

// P14.1, P14.2
func TestRunByWords(t *testing.T) {
	rng := rand.New(rand.NewSource(14))
	met := map[int]int{}
	for range 1500 {
		p := aProgram(t, rng, 8, isLayered)
		in := someRows(rng, p)
		want, rounds := runByWords(t, p, in)
		got, e := ram.Run(p, in, api.MaxLimit)
		if !allSame(got, want) || e != api.OK {
			t.Fatalf("%s of %v: %v, %d, not %v", shown(p), in, got, e, want)
		}
		n, e := ram.Rounds(p, in, api.MaxLimit)
		if !slices.Equal(n, rounds) || e != api.OK {
			t.Fatalf("%s of %v: %d rounds, %d, not %d", shown(p), in, n, e, rounds)
		}
		for _, k := range n {
			met[k]++
		}
	}
	if met[1] < 200 || met[2] < 200 || met[3] < 50 || met[4] < 10 || met[5] < 1 {
		t.Errorf("of so many rounds so many blocks: %v", met)
	}
}

// P14.1, and P14.3: the model, whose model is the same, by a round each.
func TestTheModel(t *testing.T) {
	rng := rand.New(rand.NewSource(141))
	for range 1500 {
		p := aProgram(t, rng, 8, isLayered)
		in := someRows(rng, p)
		want, _ := model.Eval(p, in, api.MaxLimit)
		got, e := ram.Run(p, in, max(1, count(want)))
		if !allSame(got, want) || e != api.OK {
			t.Fatalf("%s of %v: %v, %d, not %v", shown(p), in, got, e, want)
		}
		if again, e := ram.Run(p, want, max(1, count(want))); !allSame(again, want) || e != api.OK {
			t.Fatalf("%s of %v: %v, %d, not %v", shown(p), in, again, e, want)
		}
		rounds, e := ram.Rounds(p, want, max(1, count(want)))
		if e != api.OK {
			t.Fatal(e)
		}
		l, _ := blocks.Of(p)
		for k, b := range l {
			n := 0
			if len(b.Loop) > 0 && slices.ContainsFunc(b.Rels, func(r int) bool { return len(want[r]) > 0 }) {
				n = 1
			}
			if rounds[k] != n {
				t.Fatalf("%s of %v: %d rounds", shown(p), want, rounds)
			}
		}
	}
}

// fireAll lays what all rules with heads in a group give on all rows, whatever
// is new, and tells whether something was not there.
func fireAll(p api.Prog, group []int, all [][][]api.Val, isOf func(k int) bool) bool {
	was, given := count(all), make([][][]api.Val, len(all))
	for k, r := range p.Rules {
		at, _ := dtype.Find(p.Decls, r.Head.Rel)
		if slices.Contains(group, at) && isOf(k) {
			l, _ := model.Fire(p, k, all)
			given[at] = append(given[at], l...)
		}
	}
	for k, l := range given {
		all[k], _ = rel.Union(all[k], rel.Sort(l))
	}
	return count(all) > was
}

// P14.2: rounds are as many as there are turns in which all rules that are
// recursive give something, and one more: new rows are enough for each.
func TestRoundsByWholeRules(t *testing.T) {
	rng := rand.New(rand.NewSource(142))
	for range 1500 {
		p := aProgram(t, rng, 8, isLayered)
		in := someRows(rng, p)
		groups, _, _ := dgraph.Groups(p)
		isRecursive := func(k int) bool {
			is, _ := dgraph.Recursive(p, k)
			return is
		}
		all, want := slices.Clone(in), []int(nil)
		for _, group := range groups {
			fireAll(p, group, all, func(k int) bool { return !isRecursive(k) })
			n, isThere, isLoop := 0, false, false
			for _, r := range group {
				isThere = isThere || len(all[r]) > 0
			}
			for k, r := range p.Rules {
				at, _ := dtype.Find(p.Decls, r.Head.Rel)
				isLoop = isLoop || slices.Contains(group, at) && isRecursive(k)
			}
			if isThere && isLoop {
				n = 1
			}
			for fireAll(p, group, all, isRecursive) {
				n++
			}
			want = append(want, n)
		}
		if got, e := ram.Rounds(p, in, api.MaxLimit); !slices.Equal(got, want) || e != api.OK {
			t.Fatalf("%s of %v: %d rounds, %d, not %d", shown(p), in, got, e, want)
		}
	}
}

// spoil makes a rule wrong, if that can be.
func spoil(rng *rand.Rand, r *api.Rule) {
	switch rng.Intn(5) {
	case 0:
		r.Head.Rel = "nothing"
	case 1:
		r.Head.L = append(slices.Clone(r.Head.L), api.Term{Op: api.OInt})
	case 2:
		r.Head.L = slices.Repeat([]api.Term{{Op: api.OVar, S: "who"}}, len(r.Head.L))
	case 3:
		r.Head.L = slices.Repeat([]api.Term{{Op: api.OSym, S: "who"}}, len(r.Head.L))
	case 4:
		r.Body = append(slices.Clone(r.Body), api.Lit{})
	}
}

// spoilRows makes rows such as do not fit, mostly.
func spoilRows(rng *rand.Rand, in [][][]api.Val) [][][]api.Val {
	k := rng.Intn(len(in))
	in = slices.Clone(in)
	switch rng.Intn(4) {
	case 0:
		return in[1:]
	case 1:
		in[k] = append(slices.Clone(in[k]), nil)
	case 2:
		slices.Reverse(in[k])
	case 3:
		in[k] = [][]api.Val{{num(1)}}
	}
	return in
}

// P14.1, P14.2: the errors are the model's.
func TestErrorsByWords(t *testing.T) {
	rng := rand.New(rand.NewSource(143))
	limits := []int{math.MinInt, -1, 0, 1, 7, 14, 16, 18, 20, 22, 24, 30, 40, 50, 60, 100, api.MaxLimit, api.MaxLimit + 1}
	met := map[api.Errno]int{}
	for range 5000 {
		p := aProgram(t, rng, 6, isSafe)
		if n := len(p.Rules); n > 0 && rng.Intn(4) == 0 {
			spoil(rng, &p.Rules[rng.Intn(n)])
		}
		in, limit := someRows(rng, p), limits[rng.Intn(len(limits))]
		if rng.Intn(5) == 0 {
			in = spoilRows(rng, in)
		}
		want, wantErr := model.Eval(p, in, limit)
		if got, e := ram.Run(p, in, limit); e != wantErr || !allSame(got, want) {
			t.Fatalf("%s of %v, %d: %v, %d, not %v, %d", shown(p), in, limit, got, e, want, wantErr)
		}
		if got, e := ram.Rounds(p, in, limit); e != wantErr || e != api.OK && got != nil {
			t.Fatalf("%s of %v, %d: %d rounds, %d, not %d", shown(p), in, limit, got, e, wantErr)
		}
		met[wantErr]++
	}
	if len(met) < 10 || met[api.ErrStrat] < 200 || met[api.ErrInvent] < 100 || met[api.ErrArg] < 300 || met[api.ErrFacts] < 300 || met[api.ErrLimit] < 300 || met[api.OK] < 300 {
		t.Errorf("%v", met)
	}
}

// P14.1: more rows that are handed in leave no fewer, where nothing must not
// be, and nothing is counted; and what was handed in is there.
func TestMoreRowsMakeNoFewer(t *testing.T) {
	rng := rand.New(rand.NewSource(144))
	isPlain := func(p api.Prog) bool {
		for _, r := range p.Rules {
			if slices.ContainsFunc(r.Body, func(l api.Lit) bool { return l.Op == api.LNot || l.Op >= api.LCount }) {
				return false
			}
		}
		return isLayered(p)
	}
	for range 500 {
		p := aProgram(t, rng, 8, isPlain)
		few, more := someRows(rng, p), someRows(rng, p)
		for k := range more {
			more[k], _ = rel.Union(few[k], more[k])
		}
		ofFew, _ := ram.Run(p, few, api.MaxLimit)
		ofMore, _ := ram.Run(p, more, api.MaxLimit)
		for k := range more {
			lost, _ := rel.Minus(ofFew[k], ofMore[k])
			gone, _ := rel.Minus(more[k], ofMore[k])
			if len(lost)+len(gone) > 0 {
				t.Fatalf("%s of %v: %v and %v are not there", shown(p), more, lost, gone)
			}
		}
	}
}

// P14.1: rules in another order make the same rows, in as many rounds.
func TestRulesInAnotherOrder(t *testing.T) {
	rng := rand.New(rand.NewSource(145))
	for range 500 {
		p := aProgram(t, rng, 8, isLayered)
		in := someRows(rng, p)
		want, _ := ram.Run(p, in, api.MaxLimit)
		rounds, _ := ram.Rounds(p, in, api.MaxLimit)
		p.Rules = slices.Clone(p.Rules)
		rng.Shuffle(len(p.Rules), func(i, k int) { p.Rules[i], p.Rules[k] = p.Rules[k], p.Rules[i] })
		if got, e := ram.Run(p, in, api.MaxLimit); !allSame(got, want) || e != api.OK {
			t.Fatalf("%s of %v: %v, %d, not %v", shown(p), in, got, e, want)
		}
		if got, e := ram.Rounds(p, in, api.MaxLimit); !slices.Equal(got, rounds) || e != api.OK {
			t.Fatalf("%s of %v: %d rounds, %d, not %d", shown(p), in, got, e, rounds)
		}
	}
}

// R4
func TestAnswersAreTheSameAgain(t *testing.T) {
	rng := rand.New(rand.NewSource(146))
	for range 300 {
		p := aProgram(t, rng, 8, isSafe)
		in, limit := someRows(rng, p), 10+rng.Intn(40)
		want, wantErr := ram.Run(p, in, limit)
		rounds, _ := ram.Rounds(p, in, limit)
		for range 3 {
			got, e := ram.Run(p, in, limit)
			n, e2 := ram.Rounds(p, in, limit)
			if !reflect.DeepEqual(got, want) || !slices.Equal(n, rounds) || e != wantErr || e2 != wantErr {
				t.Fatalf("%s of %v: %v, %d, %d, again %v, %d, %d", shown(p), in, want, rounds, wantErr, got, n, e)
			}
		}
	}
}
