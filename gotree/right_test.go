package gotree_test

import (
	"math"
	"regexp"
	"slices"
	"strconv"
	"strings"
	"testing"

	"sorites/api"
	"sorites/gotree"
)

// forms makes of forms and the kinds that have them each kind's form.
func forms(l map[string][]int) map[int]*regexp.Regexp {
	out := map[int]*regexp.Regexp{}
	for form, ops := range l {
		for _, op := range ops {
			out[op] = regexp.MustCompile("^" + form + "$")
		}
	}
	return out
}

func has(forms map[int]*regexp.Regexp, op int, parts string) bool {
	return forms[op] != nil && forms[op].MatchString(parts)
}

// exprForms are what expressions are made of: S is empty, a name, a sign, or
// all else; N is 0, positive or negative; then how many parts there are.
var exprForms = forms(map[string][]int{
	`n00`:                   {api.EName},
	`e[0p]0`:                {api.EInt},
	`.00`:                   {api.EText},
	`e00`:                   {api.ETrue, api.EFalse},
	`s02`:                   {api.EBin},
	`e01`:                   {api.ENeg, api.ENot, api.ELen},
	`n0(\d|\d\d|1\d\d|200)`: {api.ECall, api.EMake},
	`e02`:                   {api.EIndex, api.EAppend, api.EAt},
	`e03`:                   {api.ESlice},
	`n01`:                   {api.EField},
})

// typeForms are what types are made of, likewise without N.
var typeForms = forms(map[string][]int{`e0`: {api.GInt, api.GText, api.GBool}, `n0`: {api.GName}, `e1`: {api.GList}})

// classOf tells what a text is to expressions.
func classOf(s string) string {
	switch {
	case s == "":
		return "e"
	case isName(s):
		return "n"
	case slices.Contains(signs, s):
		return "s"
	}
	return "w"
}

// P15.1
func TestWhatExpressionsAreMadeOf(t *testing.T) {
	texts := append([]string{"", "x", "Int", "_", "if", "len", "true", "a b", "1", "=", "!", "&", "|", "&^", "<<", ">>", ":=", "+ ", "+=", "=>", "(", "\x00", "\u00d7"}, signs...)
	for op := -3; op <= 20; op++ {
		for _, s := range texts {
			for n, class := range map[int64]string{0: "0", 1: "p", math.MaxInt64: "p", -1: "-", math.MinInt64: "-"} {
				for _, count := range []int{0, 1, 2, 3, 4, 5, 60, 199, 200, 201, 400} {
					want := has(exprForms, op, classOf(s)+class+strconv.Itoa(count))
					a := api.GExpr{Op: op, S: s, N: n, L: slices.Repeat([]api.GExpr{x}, count)}
					if got := gotree.RightExpr(a); got != want {
						t.Errorf("%d %q %d of %d: %v", op, s, n, count, got)
					}
					if got := gotree.Right(file(leave, ret(of(api.EIndex, one, of(api.ENeg, a))))); got != want {
						t.Errorf("%d %q %d of %d within others: %v", op, s, n, count, got)
					}
				}
			}
		}
	}
}

func wrongExprs() []api.GExpr {
	return []api.GExpr{
		{S: "x"}, {N: 1}, {L: []api.GExpr{x}}, {L: []api.GExpr{{}}}, {Op: -1}, {Op: 17}, {Op: math.MinInt64}, {Op: math.MaxInt64, S: "x"},
		{Op: 1<<32 + api.ETrue}, name(""), name("_"), name("if"), name("x y"), num(-1), num(math.MinInt64), {Op: api.EInt, S: "1"}, {Op: api.ETrue, S: "true"},
		{Op: api.EText, S: "s", N: 1}, {Op: api.EFalse, L: []api.GExpr{x}}, bin("", x, y), bin("=", x, y), bin("&", x, y), of(api.EBin, x, y),
		{Op: api.EBin, S: "+", L: []api.GExpr{x}}, {Op: api.EBin, S: "+", L: []api.GExpr{x, y, x}}, of(api.ENeg), of(api.ENeg, x, y), of(api.ENot),
		call(""), call("len", x), call("int", x), call("append", x, y), of(api.EIndex, x), of(api.ESlice, x, y), of(api.ESlice, x, y, x, y),
		field(x, ""), field(x, "type"), {Op: api.EField, S: "a"}, made("", x), made("string"), of(api.ELen), of(api.EAppend, x), of(api.EAppend, x, y, x), of(api.EAt, x),
	}
}

// holders put an expression where each kind has parts.
func holders() []func(api.GExpr) api.GExpr {
	var out []func(api.GExpr) api.GExpr
	add := func(form api.GExpr, count int) {
		for i := range count {
			out = append(out, func(a api.GExpr) api.GExpr {
				held := form
				held.L = slices.Repeat([]api.GExpr{x}, count)
				held.L[i] = a
				return held
			})
		}
	}
	for op, count := range map[int]int{api.ENeg: 1, api.ENot: 1, api.ELen: 1, api.EIndex: 2, api.EAppend: 2, api.EAt: 2, api.ESlice: 3} {
		add(api.GExpr{Op: op}, count)
	}
	add(bin("+", x, x), 2)
	add(bin("&&", x, x), 2)
	add(field(x, "a"), 1)
	for count := 1; count <= 3; count++ {
		add(call("f"), count)
		add(made("T"), count)
	}
	return out
}

// P15.1
func TestWrongExpressions(t *testing.T) {
	for _, a := range wrongExprs() {
		checkExpr(t, a, "")
		for _, hold := range holders() {
			for _, within := range []api.GExpr{hold(a), hold(of(api.ENot, a)), call("f", hold(a))} {
				if s, e := gotree.ShowExpr(within); gotree.RightExpr(within) || s != "" || e != api.ErrGo {
					t.Errorf("%s: %q, %d", brief(within), s, e)
				}
			}
		}
	}
}

// P15.1
func TestExpressionsHaveAtMostSixtyLevels(t *testing.T) {
	for i, hold := range holders() {
		for k, other := range holders() {
			a := x
			for high := 2; high <= 64; high++ {
				if high%2 == 0 {
					a = hold(a)
				} else {
					a = other(a)
				}
				if got := gotree.RightExpr(a); got != (high <= 60) {
					t.Errorf("%d levels of holders %d and %d: %v", high, i, k, got)
				}
			}
		}
	}
	text, a := "x", x
	for high := 2; high <= 63; high++ {
		text, a = "(-"+text+")", of(api.ENeg, a)
		if high <= 60 {
			checkExpr(t, a, text)
		} else {
			checkExpr(t, a, "")
		}
	}
}

// P15.1
func TestExpressionsHaveAtMostSoManyParts(t *testing.T) {
	for n := range 210 {
		list := strings.TrimSuffix(strings.Repeat("x, ", n), ", ")
		wantCall, wantMade := "f("+list+")", "(T{"+list+"})"
		if n > 200 {
			wantCall, wantMade = "", ""
		}
		checkExpr(t, call("f", slices.Repeat([]api.GExpr{x}, n)...), wantCall)
		checkExpr(t, made("T", slices.Repeat([]api.GExpr{x}, n)...), wantMade)
	}
}

// P15.1
func TestALargeExpression(t *testing.T) {
	full, want := x, "x"
	for range 17 {
		full, want = bin("+", full, full), "("+want+" + "+want+")"
	}
	if s, e := gotree.ShowExpr(full); s != want || e != api.OK || !gotree.RightExpr(full) {
		t.Errorf("%d bytes, %d", len(s), e)
	}
}

// P15.1
func TestWhatTypesAreMadeOf(t *testing.T) {
	for op := -2; op <= 8; op++ {
		for _, s := range []string{"", "T", "Int", "_", "int", "string", "if", "[]", "a b", "+"} {
			for count := range 4 {
				want := ""
				if has(typeForms, op, classOf(s)+strconv.Itoa(count)) {
					want = map[int]string{api.GInt: "int", api.GText: "string", api.GBool: "bool", api.GName: s, api.GList: "[]U"}[op]
				}
				a := api.GType{Op: op, S: s, L: slices.Repeat([]api.GType{named("U")}, count)}
				if a.Op != 0 || s != "" || count > 0 {
					checkType(t, a, want)
				}
				if want != "" {
					want = "[]" + want
				}
				checkType(t, list(a), want)
			}
		}
	}
	for _, a := range []api.GType{{S: "T"}, {L: []api.GType{intType}}, {Op: math.MinInt64}, {Op: 1<<32 + 1}, {Op: -5, L: []api.GType{intType}}} {
		checkType(t, a, "")
		checkType(t, list(list(a)), "")
	}
}

// P15.1
func TestNoTypeIsOneOfARetAlone(t *testing.T) {
	none := api.GType{L: []api.GType{}}
	for _, a := range []api.GType{{}, none} {
		checkFile(t, api.GFile{Funcs: []api.GFunc{{S: "f", Ret: a}}}, body())
		checkFile(t, api.GFile{Funcs: []api.GFunc{{S: "f", Names: []string{"a"}, Types: []api.GType{a}}}}, "")
		checkFile(t, api.GFile{Structs: []api.GStruct{{S: "T", Names: []string{"a"}, Types: []api.GType{a}}}}, "")
		checkFile(t, file(typed(a)), "")
	}
}

// P15.1
func TestTypesHaveAtMostSixtyLevels(t *testing.T) {
	for end, a := range map[string]api.GType{"int": intType, "T": named("T")} {
		for high := 1; high <= 63; high++ {
			if high <= 60 {
				checkType(t, a, strings.Repeat("[]", high-1)+end)
			} else {
				checkType(t, a, "")
			}
			a = list(a)
		}
	}
}

// stmtForms are what statements are made of: S is empty, a name or wrong; T
// empty, right or wrong; X and Y empty, right, a call or wrong; L and M empty,
// right or wrong.
var stmtForms = forms(map[string][]int{
	`nreeee`:          {api.GVar},
	`ne[rc]eee`:       {api.GLet},
	`ee[rc][rc]ee`:    {api.GSet},
	`ee[rc]e[er][er]`: {api.GIf},
	`ee[rc]e[er]e`:    {api.GFor},
	`ee[erc]eee`:      {api.GRet},
	`eeceee`:          {api.GDo},
	`eeeeee`:          {api.GBreak},
})

type like[T any] struct {
	class string
	v     T
}

func likeExprs() []like[api.GExpr] {
	return []like[api.GExpr]{
		{"e", api.GExpr{}}, {"e", api.GExpr{L: []api.GExpr{}}}, {"r", x}, {"r", of(api.EAppend, x, one)}, {"r", of(api.ENeg, call("g"))}, {"c", call("g", x)},
		{"w", api.GExpr{S: "x"}}, {"w", api.GExpr{N: 1}}, {"w", api.GExpr{L: []api.GExpr{x}}}, {"w", call("if")}, {"w", call("g", api.GExpr{})}, {"w", num(-1)},
	}
}

func likeLists() []like[[]api.GStmt] {
	return []like[[]api.GStmt]{
		{"e", nil}, {"e", stmts()}, {"r", stmts(leave, ret(api.GExpr{}))},
		{"w", stmts(api.GStmt{})}, {"w", stmts(leave, ret(num(-1)))}, {"w", stmts(loop(leave, let(name("_"))), leave)},
	}
}

// P15.1
func TestWhatStatementsAreMadeOf(t *testing.T) {
	types := []like[api.GType]{{"e", api.GType{}}, {"e", api.GType{L: []api.GType{}}}, {"r", list(intType)}, {"w", api.GType{S: "T"}}, {"w", api.GType{L: []api.GType{intType}}}, {"w", named("if")}}
	check := func(s api.GStmt, classes string) {
		want := has(stmtForms, s.Op, classes)
		if got := gotree.Right(file(s)); got != want {
			t.Errorf("%d %s: %v", s.Op, classes, got)
		}
		if got := gotree.Right(file(leave, fork(nil, stmts(loop(leave, s))), leave)); got != want {
			t.Errorf("%d %s within others: %v", s.Op, classes, got)
		}
	}
	for op := -1; op <= 9; op++ {
		for _, s := range []like[string]{{"e", ""}, {"n", "x"}, {"w", "if"}, {"w", "_"}} {
			for _, typ := range types {
				for _, a := range likeExprs() {
					for _, b := range likeExprs() {
						for _, l := range likeLists() {
							for _, m := range likeLists() {
								check(api.GStmt{Op: op, S: s.v, T: typ.v, X: a.v, Y: b.v, L: l.v, M: m.v}, s.class+typ.class+a.class+b.class+l.class+m.class)
							}
						}
					}
				}
			}
		}
	}
	for _, op := range []int{math.MinInt64, -8, 1<<32 + api.GBreak, math.MaxInt64} {
		check(api.GStmt{Op: op}, "eeeeee")
	}
}

// P15.1
func TestOnlyACallIsDone(t *testing.T) {
	for want, a := range leastExprs() {
		if a.Op == api.ECall {
			checkFile(t, file(do(a)), body(want))
		} else {
			checkFile(t, file(do(a)), "")
		}
		checkFile(t, file(do(call("g", x, a))), body("g(x, "+want+")"))
	}
	for _, a := range append(wrongExprs(), api.GExpr{}) {
		checkFile(t, file(do(a)), "")
		checkFile(t, file(do(call("g", x, a))), "")
	}
	text, a := "g()", call("g")
	for high := 1; high <= 63; high++ {
		if high <= 60 {
			checkFile(t, file(do(a)), body(text))
		} else {
			checkFile(t, file(do(a)), "")
		}
		text, a = "g("+text+")", call("g", a)
	}
}

// P15.1
func TestNoExpressionIsOneOfAReturnAlone(t *testing.T) {
	for _, none := range []api.GExpr{{}, {L: []api.GExpr{}}} {
		if s, e := gotree.ShowExpr(none); gotree.RightExpr(none) || s != "" || e != api.ErrGo {
			t.Errorf("%q, %d", s, e)
		}
		for _, p := range places() {
			want := ""
			if strings.HasSuffix(p.ahead, "return ") {
				want = body(strings.TrimSuffix(p.ahead, " ") + p.behind)
			}
			checkFile(t, file(p.use(none)), want)
		}
		for _, hold := range holders() {
			checkExpr(t, hold(none), "")
		}
	}
}

// P15.1
func TestStatementsAreAtMostFortyWithinEachOther(t *testing.T) {
	in := []func(api.GStmt) api.GStmt{
		func(s api.GStmt) api.GStmt { return loop(s) },
		func(s api.GStmt) api.GStmt { return loop(leave, s, leave) },
		func(s api.GStmt) api.GStmt { return fork(stmts(s), nil) },
		func(s api.GStmt) api.GStmt { return fork(stmts(s), stmts(leave)) },
		func(s api.GStmt) api.GStmt { return fork(nil, stmts(s)) },
		func(s api.GStmt) api.GStmt { return fork(stmts(leave, leave), stmts(leave, s)) },
	}
	for i, hold := range in {
		for k, other := range in {
			for _, s := range []api.GStmt{leave, loop(), fork(nil, nil), typed(intType)} {
				for deep := 2; deep <= 44; deep++ {
					if s = hold(s); deep%3 == 0 {
						hold, other = other, hold
					}
					if got := gotree.Right(file(leave, s)); got != (deep <= 40) {
						t.Errorf("%d deep by %d and %d: %v", deep, i, k, got)
					}
				}
			}
		}
	}
	lines, s := []string{"break"}, leave
	for deep := 2; deep <= 42; deep++ {
		for i := range lines {
			lines[i] = "\t" + lines[i]
		}
		lines, s = append(append([]string{"for true {"}, lines...), "}"), loop(s)
		if deep <= 40 {
			checkFile(t, file(leave, s), body(append([]string{"break"}, lines...)...))
		} else {
			checkFile(t, file(leave, s), "")
		}
	}
}

// P15.1
func TestStatementsBesideEachOtherHaveNoLimit(t *testing.T) {
	for _, n := range []int{40, 41, 200, 201, 5000} {
		checkFile(t, file(slices.Repeat(stmts(leave), n)...), body(slices.Repeat([]string{"break"}, n)...))
		inner := slices.Repeat([]string{"\tbreak"}, n)
		checkFile(t, file(loop(slices.Repeat(stmts(leave), n)...)), body(slices.Concat([]string{"for true {"}, inner, []string{"}"})...))
	}
}

// P15.1
func TestAsManyTypesAsNames(t *testing.T) {
	for _, n := range []int{0, 1, 2, 3, 8, 60, 199, 200, 201, 202, 1000} {
		for _, k := range []int{0, 1, 2, 3, 8, 60, 199, 200, 201, 202, 1000} {
			wantStruct, wantFunc := "", ""
			if n == k && n <= 200 {
				wantStruct = "package main\n\ntype T struct {\n" + strings.Repeat("\ta int\n", n) + "}\n"
				wantFunc = "package main\n\nfunc f(" + strings.TrimSuffix(strings.Repeat("a int, ", n), ", ") + ") {\n}\n"
			}
			names, types := slices.Repeat([]string{"a"}, n), slices.Repeat([]api.GType{intType}, k)
			checkFile(t, api.GFile{Structs: []api.GStruct{{S: "T", Names: names, Types: types}}}, wantStruct)
			checkFile(t, api.GFile{Funcs: []api.GFunc{{S: "f", Names: names, Types: types}}}, wantFunc)
		}
	}
}

// P15.1
func TestOneWrongThingMakesAFileWrong(t *testing.T) {
	changes := []func(*api.GFile){
		func(f *api.GFile) { f.Structs[0].S = "_" },
		func(f *api.GFile) { f.Structs[1].S = "" },
		func(f *api.GFile) { f.Structs[2].S = "int" },
		func(f *api.GFile) { f.Structs[0].Names[1] = "C1 " },
		func(f *api.GFile) { f.Structs[0].Types[0].S = "int" },
		func(f *api.GFile) { f.Structs[2].Types[0].L[0].S = "" },
		func(f *api.GFile) { f.Structs[2].Types[1] = api.GType{} },
		func(f *api.GFile) { f.Structs[2].Names = f.Structs[2].Names[:1] },
		func(f *api.GFile) { f.Structs = append(f.Structs, api.GStruct{}) },
		func(f *api.GFile) { f.Funcs = append(f.Funcs, api.GFunc{}) },
		func(f *api.GFile) { f.Funcs[1].S = "func" },
		func(f *api.GFile) { f.Funcs[0].Names[0] = "0" },
		func(f *api.GFile) { f.Funcs[0].Types = f.Funcs[0].Types[:1] },
		func(f *api.GFile) { f.Funcs[0].Ret.S = "bool" },
		func(f *api.GFile) { f.Funcs[1].Ret.S = "T" },
		func(f *api.GFile) { f.Funcs[1].Ret.L = []api.GType{{}} },
		func(f *api.GFile) { f.Funcs[2].Ret.L[0].Op = 0 },
		func(f *api.GFile) { f.Funcs[1].L = []api.GStmt{{}} },
		func(f *api.GFile) { f.Funcs[0].L[0].L[0].X.L[1].L[0].S = "" },
		func(f *api.GFile) { f.Funcs[0].L[0].M[1].Op = api.GDo },
		func(f *api.GFile) { f.Funcs[2].L[5].L[2].X.L[0].L[1].L[2].N = -9 },
		func(f *api.GFile) { f.Funcs[2].L[8].X.L[0].N = 1 },
	}
	for i, change := range changes {
		f := manyThings()
		change(&f)
		if s, e := gotree.Show(f); gotree.Right(f) || s != "" || e != api.ErrGo {
			t.Errorf("change %d: %q, %d", i, s, e)
		}
	}
}

// checkEndless prints nothing of a file that may have no end.
func checkEndless(t *testing.T, f api.GFile) {
	t.Helper()
	if s, e := gotree.Show(f); gotree.Right(f) || s != "" || e != api.ErrGo {
		t.Errorf("%d bytes, %d", len(s), e)
	}
}

// P15.1, R1, R5
func TestVeryManyLevelsAreWrong(t *testing.T) {
	deep, doubled, typ := one, one, intType
	inner, forked := leave, leave
	for range 1<<16 - 1 {
		deep, doubled, typ = of(api.ENot, deep), bin("+", doubled, doubled), list(typ)
		inner, forked = loop(inner), fork(stmts(forked), stmts(forked))
	}
	ring, types, held := []api.GExpr{{Op: api.EBin, S: "+"}, {Op: api.EIndex}}, []api.GType{{Op: api.GList}}, stmts(leave, loop(), fork(nil, nil))
	ring[0].L, ring[1].L, types[0].L = ring, ring, types
	held[1].L, held[2].L, held[2].M = held, held, held
	for _, a := range []api.GExpr{deep, doubled, ring[0], ring[1]} {
		if s, e := gotree.ShowExpr(a); gotree.RightExpr(a) || s != "" || e != api.ErrGo {
			t.Errorf("%d bytes, %d", len(s), e)
		}
		for _, p := range places() {
			checkEndless(t, file(p.use(a)))
		}
	}
	for _, a := range []api.GType{typ, types[0]} {
		checkEndless(t, file(typed(a)))
		checkEndless(t, api.GFile{Funcs: []api.GFunc{{S: "f", Ret: a}}})
		checkEndless(t, api.GFile{Structs: []api.GStruct{{S: "T", Names: []string{"a"}, Types: []api.GType{a}}}})
	}
	for _, l := range [][]api.GStmt{{inner}, {forked}, held, held[1:], held[2:]} {
		checkEndless(t, file(l...))
	}
}
