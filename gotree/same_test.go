package gotree_test

import (
	"math"
	"reflect"
	"slices"
	"testing"

	"sorites/api"
	"sorites/gotree"
)

// changes each make one thing of manyThings another, all of them unlike each
// other; what they make is not always right.
func changes() []func(*api.GFile) {
	out := []func(*api.GFile){
		func(f *api.GFile) { f.Structs = f.Structs[1:] },
		func(f *api.GFile) { f.Structs = f.Structs[:2] },
		func(f *api.GFile) { f.Structs = nil },
		func(f *api.GFile) { f.Structs = append(f.Structs, f.Structs[1]) },
		func(f *api.GFile) { f.Structs = append(f.Structs, api.GStruct{}) },
		func(f *api.GFile) { f.Structs[0], f.Structs[1] = f.Structs[1], f.Structs[0] },
		func(f *api.GFile) { f.Structs[0].S = "r0" },
		func(f *api.GFile) { f.Structs[0].Names[0] = "C" },
		func(f *api.GFile) {
			f.Structs[0].Names[0], f.Structs[0].Names[1] = f.Structs[0].Names[1], f.Structs[0].Names[0]
		},
		func(f *api.GFile) { f.Structs[0].Names = f.Structs[0].Names[:1] },
		func(f *api.GFile) { f.Structs[0].Names = append(f.Structs[0].Names, "") },
		func(f *api.GFile) { f.Structs[0].Types = f.Structs[0].Types[:1] },
		func(f *api.GFile) { f.Structs[0].Types = append(f.Structs[0].Types, api.GType{}) },
		func(f *api.GFile) { f.Structs[0].Types[1] = intType },
		func(f *api.GFile) { f.Structs[0].Types[1].S = "string" },
		func(f *api.GFile) { f.Structs[0].Types[1].L = []api.GType{{}} },
		func(f *api.GFile) { f.Structs[0].Types[1] = list(textType) },
		func(f *api.GFile) { f.Structs[2].Types[0].L[0].S = "E" },
		func(f *api.GFile) { f.Structs[2].Types[0].L[0] = intType },
		func(f *api.GFile) { f.Structs[2].Types[0] = named("R0") },
		func(f *api.GFile) { f.Structs[2].Types[0].L = nil },
		func(f *api.GFile) {
			f.Structs[1] = api.GStruct{S: "E", Names: []string{"a"}, Types: []api.GType{intType}}
		},
		func(f *api.GFile) { f.Funcs = f.Funcs[1:] },
		func(f *api.GFile) { f.Funcs = f.Funcs[:2] },
		func(f *api.GFile) { f.Funcs = nil },
		func(f *api.GFile) { f.Funcs = append(f.Funcs, f.Funcs[1]) },
		func(f *api.GFile) { f.Funcs = append(f.Funcs, api.GFunc{}) },
		func(f *api.GFile) { f.Funcs[0], f.Funcs[1] = f.Funcs[1], f.Funcs[0] },
		func(f *api.GFile) { f.Funcs[1].S = "Nothing" },
		func(f *api.GFile) { f.Funcs[1].Names = []string{"a"} },
		func(f *api.GFile) { f.Funcs[1].Types = []api.GType{intType} },
		func(f *api.GFile) { f.Funcs[1].Names, f.Funcs[1].Types = []string{"a"}, []api.GType{intType} },
		func(f *api.GFile) { f.Funcs[1].Ret = intType },
		func(f *api.GFile) { f.Funcs[1].Ret.S = "T" },
		func(f *api.GFile) { f.Funcs[1].Ret.L = []api.GType{{}} },
		func(f *api.GFile) { f.Funcs[0].Ret = api.GType{} },
		func(f *api.GFile) { f.Funcs[0].Ret = named("R0") },
		func(f *api.GFile) { f.Funcs[2].Ret = list(boolType) },
		func(f *api.GFile) { f.Funcs[0].Names[1] = "c" },
		func(f *api.GFile) { f.Funcs[0].Types[1] = named("E") },
		func(f *api.GFile) { f.Funcs[1].L = stmts(leave) },
		func(f *api.GFile) { f.Funcs[1].L = stmts(api.GStmt{}) },
		func(f *api.GFile) { f.Funcs[0].L = nil },
		func(f *api.GFile) { f.Funcs[0].L[0].L, f.Funcs[0].L[0].M = f.Funcs[0].L[0].M, f.Funcs[0].L[0].L },
		func(f *api.GFile) {
			f.Funcs[0].L[0].L = append(f.Funcs[0].L[0].L, f.Funcs[0].L[0].M...)
			f.Funcs[0].L[0].M = nil
		},
		func(f *api.GFile) { f.Funcs[0].L[0].M = f.Funcs[0].L[0].M[1:] },
		func(f *api.GFile) { f.Funcs[0].L[0].M = append(f.Funcs[0].L[0].M, leave) },
		func(f *api.GFile) { f.Funcs[2].L[5].L[2], f.Funcs[2].L[6] = f.Funcs[2].L[6], f.Funcs[2].L[5].L[2] },
		func(f *api.GFile) { f.Funcs[0].L[1].X.L[0] = yes },
		func(f *api.GFile) { f.Funcs[0].L[1].X.S = "||" },
		func(f *api.GFile) { f.Funcs[2].L[7].X = api.GExpr{Op: api.EName, S: "i"} },
	}
	for i := range manyThings().Funcs {
		for k := range manyThings().Funcs[i].L {
			at := func(f *api.GFile) *api.GStmt { return &f.Funcs[i].L[k] }
			out = append(out,
				func(f *api.GFile) { f.Funcs[i].L = slices.Delete(f.Funcs[i].L, k, k+1) },
				func(f *api.GFile) { f.Funcs[i].L = slices.Insert(f.Funcs[i].L, k, leave) },
				func(f *api.GFile) { at(f).Op += 8 },
				func(f *api.GFile) { at(f).Op *= -1 },
				func(f *api.GFile) { at(f).S += "s" },
				func(f *api.GFile) { at(f).T.Op += 10 },
				func(f *api.GFile) { at(f).T.S += "s" },
				func(f *api.GFile) { at(f).T.L = append(at(f).T.L, intType) },
				func(f *api.GFile) { at(f).X.Op += 20 },
				func(f *api.GFile) { at(f).X.S += "s" },
				func(f *api.GFile) { at(f).X.N += 100 },
				func(f *api.GFile) { at(f).X.N = math.MinInt64 },
				func(f *api.GFile) { at(f).X.L = append(at(f).X.L, x) },
				func(f *api.GFile) { at(f).Y.Op += 20 },
				func(f *api.GFile) { at(f).Y.S += "s" },
				func(f *api.GFile) { at(f).Y.N += 100 },
				func(f *api.GFile) { at(f).Y.L = append(at(f).Y.L, x) },
				func(f *api.GFile) { at(f).L = append(at(f).L, loop()) },
				func(f *api.GFile) { at(f).M = append(at(f).M, loop()) })
		}
	}
	return out
}

// P15.1, P15.2
func TestOneChangeMakesFilesUnlike(t *testing.T) {
	files := []api.GFile{manyThings()}
	for _, change := range changes() {
		f := manyThings()
		change(&f)
		files = append(files, f)
	}
	seen := map[string]int{}
	for i, a := range files {
		for k, b := range files {
			if gotree.Same(a, b) != (i == k) {
				t.Errorf("changes %d and %d: %v", i-1, k-1, i != k)
			}
		}
		s, e := gotree.Show(a)
		if k, ok := seen[s]; ok && e == api.OK {
			t.Errorf("changes %d and %d have one text", i-1, k-1)
		}
		seen[s] = i
	}
	if !gotree.Same(manyThings(), manyThings()) {
		t.Error("one file, made twice")
	}
}

// P15.1, R3
func TestNilAndEmptyListsAreAlike(t *testing.T) {
	none := api.GFile{
		Structs: []api.GStruct{{}, {Types: []api.GType{{}}}},
		Funcs:   []api.GFunc{{}, {L: []api.GStmt{{}, {L: []api.GStmt{{}}, M: []api.GStmt{{}}, X: api.GExpr{L: []api.GExpr{{}}}}}}},
	}
	empty := manyEmpties()
	if !gotree.Same(none, empty) || !gotree.Same(empty, none) {
		t.Error("unlike")
	}
	if !gotree.Same(api.GFile{}, api.GFile{Structs: []api.GStruct{}, Funcs: []api.GFunc{}}) || gotree.Same(api.GFile{}, none) || gotree.Same(none, api.GFile{}) {
		t.Error("the empty file")
	}
	noX, noT, noL := api.GExpr{L: []api.GExpr{}}, api.GType{L: []api.GType{}}, stmts()
	leaf := api.GExpr{Op: api.EName, S: "x", L: []api.GExpr{}}
	checkExpr(t, leaf, "x")
	checkType(t, api.GType{Op: api.GText, L: []api.GType{}}, "string")
	checkFile(t, file(
		api.GStmt{Op: api.GVar, S: "v", T: api.GType{Op: api.GInt, L: []api.GType{}}, X: noX, Y: noX, L: noL, M: noL},
		api.GStmt{Op: api.GLet, S: "x", T: noT, X: call("f", leaf), Y: noX, L: noL, M: noL},
		api.GStmt{Op: api.GSet, T: noT, X: leaf, Y: leaf, L: noL, M: noL},
		api.GStmt{Op: api.GIf, T: noT, X: leaf, Y: noX, L: noL, M: noL},
		api.GStmt{Op: api.GFor, T: noT, X: leaf, Y: noX, L: noL, M: noL},
		api.GStmt{Op: api.GDo, T: noT, X: api.GExpr{Op: api.ECall, S: "g", L: []api.GExpr{}}, Y: noX, L: noL, M: noL},
		api.GStmt{Op: api.GRet, T: noT, X: noX, Y: noX, L: noL, M: noL},
		api.GStmt{Op: api.GBreak, T: noT, X: noX, Y: noX, L: noL, M: noL},
	), body("var v int", "x := f(x)", "x = x", "if x {", "}", "for x {", "}", "g()", "return", "break"))
}

func manyEmpties() api.GFile {
	noX, noT := api.GExpr{L: []api.GExpr{}}, api.GType{L: []api.GType{}}
	s := api.GStmt{T: noT, X: noX, Y: noX, L: stmts(), M: stmts()}
	return api.GFile{
		Structs: []api.GStruct{{Names: []string{}, Types: []api.GType{}}, {Names: []string{}, Types: []api.GType{noT}}},
		Funcs: []api.GFunc{
			{Names: []string{}, Types: []api.GType{}, Ret: noT, L: stmts()},
			{Ret: noT, L: stmts(s, api.GStmt{L: stmts(s), M: stmts(s), X: api.GExpr{L: []api.GExpr{noX}}})},
		},
	}
}

// P15.1, R1, R5
func TestFilesThatAreNotRightAreHeldAgainstEachOther(t *testing.T) {
	deepExpr := func(levels int, end api.GExpr) api.GFile {
		for range levels {
			end = api.GExpr{Op: -7, L: []api.GExpr{{}, end}}
		}
		return file(api.GStmt{Y: end})
	}
	deepType := func(levels int, end api.GExpr) api.GFile {
		a := api.GType{S: end.S, Op: int(end.N)}
		for range levels {
			a = api.GType{Op: 9, L: []api.GType{a}}
		}
		return api.GFile{Funcs: []api.GFunc{{Ret: a}}}
	}
	deepStmt := func(levels int, end api.GExpr) api.GFile {
		s := api.GStmt{X: end}
		for range levels / 2 {
			s = api.GStmt{Op: -1, L: stmts(api.GStmt{S: "-", M: stmts(s)})}
		}
		return file(s)
	}
	const most = 1<<16 - 6
	for i, deep := range []func(int, api.GExpr) api.GFile{deepExpr, deepType, deepStmt} {
		if !gotree.Same(deep(most, one), deep(most, one)) {
			t.Errorf("%d: deep files are unlike", i)
		}
		if gotree.Same(deep(most, one), deep(most, num(2))) || gotree.Same(deep(most, one), deep(most-2, one)) {
			t.Errorf("%d: unlike deep files are alike", i)
		}
	}
	many, more := api.GFile{Structs: make([]api.GStruct, 1000), Funcs: make([]api.GFunc, 1000)}, api.GFile{Structs: make([]api.GStruct, 1000), Funcs: make([]api.GFunc, 1000)}
	if !gotree.Same(many, more) {
		t.Error("many things are unlike")
	}
	more.Funcs[999].L = stmts(api.GStmt{})
	if gotree.Same(many, more) {
		t.Error("the last function")
	}
	more.Funcs[999].L, more.Structs[999].Names = nil, []string{""}
	if gotree.Same(many, more) {
		t.Error("the last struct")
	}
}

// P15.1, R3
func TestWhatIsHandedInIsLeftAsItIs(t *testing.T) {
	f := manyThings()
	for i := range f.Funcs {
		g := &f.Funcs[i]
		g.L = append(slices.Clip(g.L), leave)[:len(g.L)]
		g.Types = append(slices.Clip(g.Types), named("spare"))[:len(g.Types)]
		g.Names = append(slices.Clip(g.Names), "spare")[:len(g.Names)]
	}
	a := call("f", x, of(api.ENeg, one))
	spare := append(a.L, name("spare"))
	a.L = spare[:2]
	gotree.Right(f)
	gotree.Show(f)
	gotree.Same(f, manyThings())
	gotree.RightExpr(a)
	gotree.ShowExpr(a)
	if !reflect.DeepEqual(spare, []api.GExpr{x, of(api.ENeg, one), name("spare")}) {
		t.Errorf("%v", spare)
	}
	for i, g := range f.Funcs {
		if !reflect.DeepEqual(g.L[:len(g.L)+1][len(g.L)], leave) || !reflect.DeepEqual(g.Types[:len(g.Types)+1][len(g.Types)], named("spare")) || g.Names[:len(g.Names)+1][len(g.Names)] != "spare" {
			t.Errorf("the spare room of function %d", i)
		}
		f.Funcs[i].L = slices.Clip(g.L)
	}
	if s, e := gotree.Show(f); s != manyThingsText || e != api.OK {
		t.Errorf("%q, %d", s, e)
	}
}
