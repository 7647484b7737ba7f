package dtree_test

import (
	"math"
	"testing"

	"sorites/api"
	"sorites/dtree"
)

// changes each make one thing of manyThings another, all of them unlike each
// other; what they make is not always right.
func changes() []func(*api.Prog) {
	x := variable("x")
	out := []func(*api.Prog){
		func(p *api.Prog) { p.Decls = p.Decls[1:] },
		func(p *api.Prog) { p.Decls = p.Decls[:3] },
		func(p *api.Prog) { p.Decls = nil },
		func(p *api.Prog) { p.Decls = append(p.Decls, p.Decls[3]) },
		func(p *api.Prog) { p.Decls[0], p.Decls[1] = p.Decls[1], p.Decls[0] },
		func(p *api.Prog) { p.Decls[0].Rel = "" },
		func(p *api.Prog) { p.Decls[3].Rel = "H" },
		func(p *api.Prog) { p.Decls[0].In = false },
		func(p *api.Prog) { p.Decls[0].Out = true },
		func(p *api.Prog) { p.Decls[0].In, p.Decls[0].Out = false, true },
		func(p *api.Prog) { p.Decls[0].Names[1] = "c" },
		func(p *api.Prog) { p.Decls[0].Names[0], p.Decls[0].Names[1] = "b", "a" },
		func(p *api.Prog) { p.Decls[0].Names = p.Decls[0].Names[:1] },
		func(p *api.Prog) { p.Decls[0].Names = append(p.Decls[0].Names, "") },
		func(p *api.Prog) { p.Decls[0].Types[0] = api.TSym },
		func(p *api.Prog) { p.Decls[0].Types[1] = 0 },
		func(p *api.Prog) { p.Decls[0].Types = p.Decls[0].Types[:1] },
		func(p *api.Prog) { p.Decls[0].Types = append(p.Decls[0].Types, 0) },
		func(p *api.Prog) { p.Decls[1].Names, p.Decls[1].Types = nil, nil },
		func(p *api.Prog) { p.Rules = p.Rules[1:] },
		func(p *api.Prog) { p.Rules = p.Rules[:5] },
		func(p *api.Prog) { p.Rules = nil },
		func(p *api.Prog) { p.Rules = append(p.Rules, p.Rules[0]) },
		func(p *api.Prog) { p.Rules = append(p.Rules, api.Rule{}) },
		func(p *api.Prog) { p.Rules[1], p.Rules[2] = p.Rules[2], p.Rules[1] },
		func(p *api.Prog) { p.Rules[0].Head.Rel = "E" },
		func(p *api.Prog) { p.Rules[0].Head.L = p.Rules[0].Head.L[:1] },
		func(p *api.Prog) { p.Rules[0].Head.L = append(p.Rules[0].Head.L, api.Term{}) },
		func(p *api.Prog) { p.Rules[0].Head.L[0].N = 3 },
		func(p *api.Prog) { p.Rules[0].Head.L[0] = symbol("-3") },
		func(p *api.Prog) { p.Rules[0].Head.L[1].S += " " },
		func(p *api.Prog) { p.Rules[0].Head.L[1].N = 1 },
		func(p *api.Prog) { p.Rules[0].Body = []api.Lit{lit(api.LAtom, "e", x)} },
		func(p *api.Prog) { p.Rules[0].Body = []api.Lit{{}} },
		func(p *api.Prog) { p.Rules[1].Body = nil },
		func(p *api.Prog) { p.Rules[1].Body = p.Rules[1].Body[:1] },
		func(p *api.Prog) { p.Rules[1].Body = append(p.Rules[1].Body, p.Rules[1].Body[0]) },
		func(p *api.Prog) { p.Rules[1].Body[0], p.Rules[1].Body[1] = p.Rules[1].Body[1], p.Rules[1].Body[0] },
		func(p *api.Prog) { p.Rules[1].Body[1].A.L[0].L[0].S = "y" },
		func(p *api.Prog) { p.Rules[1].Body[1].A.L[0].L[1].N = math.MinInt64 },
		func(p *api.Prog) { p.Rules[1].Body[1].A.L[0].L[1].S = "2" },
		func(p *api.Prog) { p.Rules[1].Body[1].A.L[0].Op = api.OSub },
		func(p *api.Prog) { p.Rules[1].Body[1].A.L[0].S = "*" },
		func(p *api.Prog) { p.Rules[1].Body[1].A.L[0].N = 1 },
		func(p *api.Prog) { p.Rules[1].Body[1].A.L[0].L = nil },
		func(p *api.Prog) { p.Rules[1].Body[1].A.L[0].L = append(p.Rules[1].Body[1].A.L[0].L, api.Term{}) },
		func(p *api.Prog) { p.Rules[1].Body[1].A.L[0].L[0].L = []api.Term{{}} },
		func(p *api.Prog) { p.Rules[1].Body[1].A.L[0].L[1].Op = 99 },
	}
	for i := 1; i <= 5; i++ {
		for k := range manyThings().Rules[i].Body {
			out = append(out,
				func(p *api.Prog) { p.Rules[i].Body[k].Op = 11 },
				func(p *api.Prog) { p.Rules[i].Body[k].Op = -p.Rules[i].Body[k].Op },
				func(p *api.Prog) { p.Rules[i].Body[k].A.Rel += "r" },
				func(p *api.Prog) { p.Rules[i].Body[k].A.L = append(p.Rules[i].Body[k].A.L, x) },
				func(p *api.Prog) { p.Rules[i].Body[k].X.Op += 10 },
				func(p *api.Prog) { p.Rules[i].Body[k].X.N += 10 },
				func(p *api.Prog) { p.Rules[i].Body[k].X.S += "s" },
				func(p *api.Prog) { p.Rules[i].Body[k].X.L = append(p.Rules[i].Body[k].X.L, x) },
				func(p *api.Prog) { p.Rules[i].Body[k].Y.Op += 10 },
				func(p *api.Prog) { p.Rules[i].Body[k].Y.N += 10 },
				func(p *api.Prog) { p.Rules[i].Body[k].Y.S += "s" },
				func(p *api.Prog) { p.Rules[i].Body[k].Y.L = append(p.Rules[i].Body[k].Y.L, x) })
		}
	}
	return out
}

// P3.2, P3.3
func TestOneChangeMakesProgramsUnlike(t *testing.T) {
	progs := []api.Prog{manyThings()}
	for _, change := range changes() {
		p := copied(manyThings())
		change(&p)
		progs = append(progs, p)
	}
	seen := map[string]int{}
	for i, a := range progs {
		for k, b := range progs {
			if dtree.Same(a, b) != (i == k) {
				t.Errorf("changes %d and %d: %v", i-1, k-1, i != k)
			}
		}
		s, e := dtree.Show(a)
		if k, ok := seen[s]; ok && e == api.OK {
			t.Errorf("changes %d and %d have one text", i-1, k-1)
		}
		seen[s] = i
	}
}

// P3.2
func TestLinesDoNotMatter(t *testing.T) {
	p := manyThings()
	for i := range p.Decls {
		p.Decls[i].Line = 100 - i
	}
	for i := range p.Rules {
		p.Rules[i].Line = -i
	}
	if !dtree.Same(p, manyThings()) || !dtree.Same(manyThings(), p) {
		t.Error("unlike by lines")
	}
	checkProg(t, p, manyThingsText)
}

// P3.2, R3
func TestNilAndEmptyListsAreAlike(t *testing.T) {
	none := api.Prog{Decls: []api.Decl{{}}, Rules: []api.Rule{{}, {Body: []api.Lit{{}}}, {Head: api.Atom{L: []api.Term{{}}}}}}
	empty := api.Prog{
		Decls: []api.Decl{{Names: []string{}, Types: []int{}}},
		Rules: []api.Rule{
			{Head: api.Atom{L: []api.Term{}}, Body: []api.Lit{}},
			{Body: []api.Lit{{A: api.Atom{L: []api.Term{}}, X: api.Term{L: []api.Term{}}, Y: api.Term{L: []api.Term{}}}}},
			{Head: api.Atom{L: []api.Term{{L: []api.Term{}}}}},
		},
	}
	if !dtree.Same(none, empty) || !dtree.Same(empty, none) {
		t.Error("unlike")
	}
	if !dtree.Same(api.Prog{}, api.Prog{Decls: []api.Decl{}, Rules: []api.Rule{}}) || dtree.Same(api.Prog{}, none) || dtree.Same(none, api.Prog{}) {
		t.Error("the empty program")
	}
	r := api.Rule{Head: atom("p", number(1)), Body: []api.Lit{{Op: api.LAtom, A: atom("q", number(2)), X: api.Term{L: []api.Term{}}, Y: api.Term{L: []api.Term{}}}}}
	checkRule(t, r, "p(1) :- q(2).")
	r.Body[0] = api.Lit{Op: api.LEq, A: api.Atom{L: []api.Term{}}, X: number(1), Y: number(2)}
	checkRule(t, r, "p(1) :- 1 = 2.")
}

// P3.2, R1, R5
func TestProgramsThatAreNotRightAreHeldAgainstEachOther(t *testing.T) {
	deep := func(levels int, end api.Term) api.Prog {
		for range levels {
			end = api.Term{Op: -7, L: []api.Term{end}}
		}
		return api.Prog{Rules: []api.Rule{rule(atom("", end))}}
	}
	const most = 1<<16 - 4
	if !dtree.Same(deep(most, number(1)), deep(most, number(1))) {
		t.Error("deep terms are unlike")
	}
	if dtree.Same(deep(most, number(1)), deep(most, number(2))) || dtree.Same(deep(most, number(1)), deep(most-1, number(1))) {
		t.Error("unlike deep terms are alike")
	}
	many := api.Prog{Decls: make([]api.Decl, 1000), Rules: make([]api.Rule, 1000)}
	more := api.Prog{Decls: make([]api.Decl, 1000), Rules: make([]api.Rule, 1000)}
	more.Rules[999].Line, more.Decls[999].Line = 1, 1
	if !dtree.Same(many, more) {
		t.Error("many things are unlike")
	}
	more.Rules[999].Head.L = []api.Term{{}}
	if dtree.Same(many, more) {
		t.Error("the last rule")
	}
}
