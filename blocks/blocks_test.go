package blocks_test

import (
	"fmt"
	"math"
	"reflect"
	"slices"
	"strconv"
	"strings"
	"testing"

	"sorites/api"
	"sorites/blocks"
	"sorites/dlex"
	"sorites/dread"
	"sorites/query"
)

func read(t *testing.T, s string) api.Prog {
	t.Helper()
	l, line, e := dlex.Lex(s)
	if e != api.OK {
		t.Fatalf("%q: %d in line %d", s, e, line)
	}
	p, line, e := dread.Parse(l)
	if e != api.OK {
		t.Fatalf("%q: %d in line %d", s, e, line)
	}
	return p
}

// queryOf is the query of a rule, with a step on what is new.
func queryOf(t *testing.T, p api.Prog, k, delta int) api.Query {
	t.Helper()
	q, e := query.Of(p, k)
	if e != api.OK {
		t.Fatalf("rule %d: %d", k, e)
	}
	q.Delta = delta
	return q
}

// text is a query as a text: the place of its rule (of the first one, if rules
// are the same), and the step on what is new, if there is one.
func text(t *testing.T, p api.Prog, q api.Query) string {
	t.Helper()
	for k := range p.Rules {
		if reflect.DeepEqual(q, queryOf(t, p, k, q.Delta)) {
			if q.Delta == -1 {
				return strconv.Itoa(k)
			}
			return fmt.Sprintf("%d@%d", k, q.Delta)
		}
	}
	return fmt.Sprintf("(of no rule: %v)", q)
}

// texts are blocks as texts: the names of the relations, what is run once, and
// what again and again, parted by slashes, as in "p q/0 1/2@0".
func texts(t *testing.T, p api.Prog, l []api.Block) []string {
	t.Helper()
	var all []string
	for _, b := range l {
		var names, once, loop []string
		for _, r := range b.Rels {
			names = append(names, p.Decls[r].Rel)
		}
		for _, q := range b.Once {
			once = append(once, text(t, p, q))
		}
		for _, q := range b.Loop {
			loop = append(loop, text(t, p, q))
		}
		all = append(all, strings.Join(names, " ")+"/"+strings.Join(once, " ")+"/"+strings.Join(loop, " "))
	}
	return all
}

const decls = `.decl e(x: number, y: number)
.decl p(x: number, y: number)
.decl q(x: number, y: number)
.decl s(x: symbol, n: number)
`

// P13.1
func TestOf(t *testing.T) {
	for _, x := range []struct{ rules, want string }{
		{"", "e// p// q// s//"},
		{"p(x, y) :- e(x, y).", "e// p/0/ q// s//"},
		{"p(x, y) :- e(x, y). p(x, z) :- p(x, y), p(y, z).", "e// p/0/1@0 1@1 q// s//"},
		{"p(x, z) :- p(x, y), p(y, z). p(x, y) :- e(x, y).", "e// p/1/0@0 0@1 q// s//"},
		// facts
		{"e(1, 2).", "e/0/ p// q// s//"},
		{"e(1, 2). e(2, 3). p(1, 1). e(3, 4).", "e/0 1 3/ p/2/ q// s//"},
		{"p(x, y) :- p(y, x). p(1, 2). s(\"a\", 1).", "e// p/1/0@0 q// s/2/"},
		// the same rule more than once
		{"p(x, y) :- e(x, y). p(x, y) :- e(x, y).", "e// p/0 0/ q// s//"},
		{"p(x, y) :- p(y, x). p(x, y) :- p(y, x).", "e// p//0@0 0@0 q// s//"},
		{"p(x, y) :- p(x, y).", "e// p//0@0 q// s//"},
		// what is gone through twice, and is not of the group
		{"p(x, z) :- e(x, y), e(y, z).", "e// p/0/ q// s//"},
		{"p(x, z) :- e(x, y), p(y, z), e(z, x).", "e// p//0@1 q// s//"},
		{"p(x, z) :- p(x, y), e(y, z), p(z, x), p(x, x).", "e// p//0@0 0@2 0@3 q// s//"},
		// steps stand in the rule's order, not as its parts do
		{"p(x, y) :- x < y, p(x, y).", "e// p//0@0 q// s//"},
		{"p(x, y) :- z = x, z < 3, e(x, y), z < 4, p(y, z).", "e// p//0@4 q// s//"},
		{"p(x, y) :- !e(x, y), x < y, p(x, z), y != 2, p(z, y), z < 1.", "e// p//0@0 0@2 q// s//"},
		// mutual ones
		{"p(x, y) :- q(x, y). q(x, y) :- p(x, y).", "e// p q//0@0 1@0 s//"},
		{"q(x, y) :- p(x, y). p(x, y) :- q(x, y).", "e// p q//0@0 1@0 s//"},
		{"q(x, y) :- p(x, y), q(y, x). p(x, y) :- e(x, y). p(x, y) :- q(x, z), p(z, y), e(x, y). q(x, x) :- e(x, x).", "e// p q/1 3/0@0 0@1 2@0 2@1 s//"},
		{"q(x, y) :- p(x, y). p(x, y) :- q(x, y). q(1, 2). p(2, 1). q(x, x) :- e(x, _). p(x, x) :- e(x, _), p(x, _).", "e// p q/2 3 4/0@0 1@0 5@1 s//"},
		{"e(x, y) :- q(x, y). q(x, y) :- p(x, y). p(x, y) :- e(x, y).", "e p q//0@0 1@0 2@0 s//"},
		{"q(x, y) :- e(x, y). e(x, y) :- q(x, y). p(x, y) :- e(x, y), q(x, y).", "e q//0@0 1@0 p/2/ s//"},
		// groups stand in their order, not as relations do
		{"e(x, y) :- p(x, y). p(x, y) :- q(x, y). q(1, 2).", "q/2/ p/1/ e/0/ s//"},
		{"e(x, y) :- q(x, y), e(x, y). p(x, y) :- e(x, y). e(1, 2).", "q// e/2/0@1 p/1/ s//"},
		{"e(n, n) :- s(_, n), q(n, n). q(n, n) :- s(\"a\", n), q(n, n).", "p// s// q//1@1 e/0/"},
		// what must not be, and aggregates, are none to go through
		{"p(x, y) :- e(x, y), !q(x, y).", "e// q// p/0/ s//"},
		{"p(x, y) :- e(x, y), p(y, x), !q(x, y), !e(y, x).", "e// q// p//0@3 s//"},
		{"p(1, n) :- n = count : { e(_, _) }. p(n, n) :- n = sum x : { e(x, _) }, q(n, n). p(n, n) :- p(n, n).", "e// q// p/0 1/2@0 s//"},
		{"p(x, n) :- e(x, _), n = max y : { q(x, y) }, q(x, n). q(x, x) :- s(_, x), 3 = min z : { e(z, x) }.", "e// s// q/1/ p/0/"},
		// numbers that are made, in rules that are not recursive
		{"p(z, x) :- e(x, y), z = x + y. q(z, y) :- p(x, y), z = x * 2.", "e// p/0/ q/1/ s//"},
	} {
		p := read(t, decls+x.rules)
		l, e := blocks.Of(p)
		if got := strings.Join(texts(t, p, l), " "); got != x.want || e != api.OK {
			t.Errorf("%s: %s, %d, not %s", x.rules, got, e, x.want)
		}
	}
}

// P13.1: the words of one block.
func TestBlock(t *testing.T) {
	p := read(t, decls+"p(x, z) :- p(x, y), e(y, z), !e(z, 3). p(x, y) :- e(x, y), x < y.")
	l, e := blocks.Of(p)
	if e != api.OK || len(l) != 4 {
		t.Fatal(l, e)
	}
	x, y, z := api.Term{Op: api.OVar, S: "x"}, api.Term{Op: api.OVar, S: "y"}, api.Term{Op: api.OVar, S: "z"}
	want := api.Block{
		Rels: []int{1},
		Once: []api.Query{{Rel: 1, Steps: []api.Step{
			{Op: api.SScan, BindCols: []int{0, 1}, Binds: []string{"x", "y"}},
			{Op: api.SHold, How: api.LLt, X: x, Y: y},
		}, Out: []api.Term{x, y}, Delta: -1}},
		Loop: []api.Query{{Rel: 1, Steps: []api.Step{
			{Op: api.SScan, Rel: 1, BindCols: []int{0, 1}, Binds: []string{"x", "y"}},
			{Op: api.SScan, Cols: []int{0}, Terms: []api.Term{y}, BindCols: []int{1}, Binds: []string{"z"}},
			{Op: api.SNone, Cols: []int{0, 1}, Terms: []api.Term{z, {Op: api.OInt, N: 3}}},
		}, Out: []api.Term{x, z}}},
	}
	if toldOf(bare(l[1])) != toldOf(bare(want)) {
		t.Errorf("%v", l[1])
	}
}

// P13.1: no relation, no block.
func TestNoBlocks(t *testing.T) {
	for range 2 {
		if l, e := blocks.Of(api.Prog{}); len(l) != 0 || e != api.OK {
			t.Error(l, e)
		}
		if l, e := blocks.Of(api.Prog{Decls: []api.Decl{}, Rules: []api.Rule{}}); len(l) != 0 || e != api.OK {
			t.Error(l, e)
		}
	}
}

// P13.1: dgraph.Groups' error, and then nothing.
func TestWrongPrograms(t *testing.T) {
	for _, x := range []struct {
		rules string
		want  api.Errno
	}{
		{".decl e(x: number)", api.ErrTwice},
		{"r(1).", api.ErrNoRel},
		{"p(x, y) :- r(x, y).", api.ErrNoRel},
		{"p(1).", api.ErrArity},
		{"p(x, y) :- p(x, y, _).", api.ErrArity},
		{"p(x, y) :- s(x, y).", api.ErrType},
		{"p(\"a\", 1).", api.ErrType},
		{"p(x, 1) :- 2 < 3.", api.ErrUnsafe},
		{"p(x, y) :- p(x, _).", api.ErrUnsafe},
		{"p(x, y) :- !p(x, y).", api.ErrUnsafe},
		{"p(x, y) :- e(x, y), !p(x, y).", api.ErrStrat},
		{"p(x, y) :- e(x, y), !q(x, y). q(x, y) :- p(x, y).", api.ErrStrat},
		{"p(1, n) :- n = count : { p(_, _) }.", api.ErrStrat},
		{"p(z, y) :- p(x, y), z = x + 1.", api.ErrInvent},
		{"p(n, n) :- p(n, n), n = count : { e(_, _) }.", api.ErrInvent},
		{"p(z, y) :- q(x, y), z = x + 1. q(x, y) :- p(x, y).", api.ErrInvent},
		{"p(x, y) :- e(x, y), !p(x, y). p(1).", api.ErrArity},
		{"p(z, y) :- p(x, y), z = x + 1. p(x, y) :- e(x, y), !p(x, y).", api.ErrInvent},
		{"p(z, y) :- p(x, y), z = x + 1, !p(y, y).", api.ErrStrat},
	} {
		if l, e := blocks.Of(read(t, decls+"p(x, y) :- e(x, y). q(x, y) :- q(y, x). "+x.rules)); len(l) != 0 || e != x.want {
			t.Errorf("%s: %v, %d, not %d", x.rules, l, e, x.want)
		}
	}
	for name, p := range map[string]api.Prog{
		"a head of no name":      {Rules: []api.Rule{{}}},
		"a relation of no name":  {Decls: []api.Decl{{}}},
		"a relation of no types": {Decls: []api.Decl{{Rel: "p", Names: []string{"x"}}}},
		"a part that is none":    {Decls: read(t, decls).Decls, Rules: []api.Rule{{Head: api.Atom{Rel: "e", L: []api.Term{{Op: api.OInt}, {Op: api.OInt}}}, Body: []api.Lit{{Op: 99}}}}},
	} {
		if l, e := blocks.Of(p); len(l) != 0 || e != api.ErrTree {
			t.Errorf("%s: %v, %d", name, l, e)
		}
	}
}

// P13.1: as many relations, and as many rules, and as many parts of these, as
// there may be.
func TestTheGreatestPrograms(t *testing.T) {
	var p api.Prog
	for k := range api.MaxDecls {
		p.Decls = append(p.Decls, api.Decl{Rel: fmt.Sprintf("r%d", k), Names: []string{"x"}, Types: []int{api.TNum}})
	}
	atom := func(k int) api.Atom {
		return api.Atom{Rel: fmt.Sprintf("r%d", k%2), L: []api.Term{{Op: api.OVar, S: "x"}}}
	}
	for k := range api.MaxRules {
		r := api.Rule{Head: atom(k)}
		for n := range api.MaxBody {
			r.Body = append(r.Body, api.Lit{Op: api.LAtom, A: atom(n)})
		}
		p.Rules = append(p.Rules, r)
	}
	l, e := blocks.Of(p)
	if e != api.OK || len(l) != api.MaxDecls-1 {
		t.Fatal(len(l), e)
	}
	if !slices.Equal(l[0].Rels, []int{0, 1}) || len(l[0].Once) != 0 || len(l[0].Loop) != api.MaxRules*api.MaxBody {
		t.Error(l[0].Rels, len(l[0].Once), len(l[0].Loop))
	}
	for k, q := range l[0].Loop {
		if q.Rel != k/api.MaxBody%2 || q.Delta != k%api.MaxBody {
			t.Fatal(k, q.Rel, q.Delta)
		}
	}
	for k, b := range l[1:] {
		if !slices.Equal(b.Rels, []int{k + 2}) || len(b.Once) != 0 || len(b.Loop) != 0 {
			t.Error(b)
		}
	}
}

// P13.1
func TestReads(t *testing.T) {
	for _, x := range []struct {
		rules string
		want  []int
	}{
		{"p(1, 2).", nil},
		{"p(1, x) :- x = 2.", nil},
		{"p(x, y) :- e(x, y).", []int{0}},
		{"p(x, y) :- p(x, y).", []int{1}},
		{"p(x, y) :- p(x, y), p(y, x), p(x, x).", []int{1}},
		{"p(x, y) :- q(x, y), p(x, y), e(y, x), p(x, x), q(x, x).", []int{0, 1, 2}},
		{"p(x, y) :- q(x, y), !e(x, y).", []int{0, 2}},
		{"p(n, n) :- n = count : { s(_, _) }.", []int{3}},
		{"p(n, n) :- n = sum x : { e(x, _) }, m = min y : { q(y, _) }, k = max z : { s(_, z) }, !q(k, m).", []int{0, 2, 3}},
		{"p(x, y) :- q(x, y), z = x + 1, z < y, x != y, x <= 7, z = 2.", []int{2}},
		{"s(u, n) :- s(u, n), q(n, n).", []int{2, 3}},
	} {
		p := read(t, decls+x.rules)
		for delta := range 3 {
			if got := blocks.Reads(queryOf(t, p, 0, delta-1)); !slices.Equal(got, x.want) {
				t.Errorf("%s: %v, not %v", x.rules, got, x.want)
			}
		}
	}
}

// P13.1: whatever the query is.
func TestReadsOfAnyQuery(t *testing.T) {
	step := func(op, rel int) api.Step { return api.Step{Op: op, Rel: rel} }
	for _, x := range []struct {
		steps []api.Step
		want  []int
	}{
		{nil, nil},
		{[]api.Step{}, nil},
		{[]api.Step{{}}, []int{0}},
		{[]api.Step{step(api.SHold, 4)}, nil},
		{[]api.Step{step(api.SLet, 4)}, nil},
		{[]api.Step{step(api.SHold, 4), step(api.SLet, 5), step(api.SLet, 0), step(api.SHold, 0)}, nil},
		{[]api.Step{step(api.SScan, 4), step(api.SNone, 2), step(api.SFold, 3)}, []int{2, 3, 4}},
		{[]api.Step{step(api.SFold, 4), step(api.SHold, 1), step(api.SNone, 4), step(api.SLet, 2), step(api.SScan, 4)}, []int{4}},
		{[]api.Step{step(0, 9), step(6, 8), step(-1, 7), step(math.MinInt, 6), step(math.MaxInt, 5), step(99, 9)}, []int{5, 6, 7, 8, 9}},
		{[]api.Step{step(3-1<<32, 2), step(4+1<<32, 1), step(3+256, 0)}, []int{0, 1, 2}},
		{[]api.Step{step(api.SScan, -1), step(api.SScan, math.MaxInt), step(api.SNone, math.MinInt), step(api.SFold, 0), step(7, -1)}, []int{math.MinInt, -1, 0, math.MaxInt}},
		{slices.Repeat([]api.Step{step(api.SScan, 3), step(api.SNone, 1), step(api.SHold, 2)}, 30000), []int{1, 3}},
	} {
		for _, delta := range []int{-1, 0, 1, math.MinInt, math.MaxInt} {
			q := api.Query{Rel: 77, Steps: x.steps, Delta: delta}
			if got := blocks.Reads(q); !slices.Equal(got, x.want) {
				t.Errorf("%d steps: %v, not %v", len(x.steps), got, x.want)
			}
		}
	}
	if got := blocks.Reads(api.Query{}); len(got) != 0 {
		t.Error(got)
	}
}
