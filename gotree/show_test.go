package gotree_test

import (
	"fmt"
	"math"
	"strings"
	"testing"

	"sorites/api"
	"sorites/gotree"
)

var (
	x, y = name("x"), name("y")
	one  = num(1)
	yes  = api.GExpr{Op: api.ETrue}
	no   = api.GExpr{Op: api.EFalse}

	intType  = api.GType{Op: api.GInt}
	textType = api.GType{Op: api.GText}
	boolType = api.GType{Op: api.GBool}

	leave = api.GStmt{Op: api.GBreak}
)

func name(s string) api.GExpr { return api.GExpr{Op: api.EName, S: s} }
func num(n int64) api.GExpr   { return api.GExpr{Op: api.EInt, N: n} }
func quote(s string) api.GExpr {
	return api.GExpr{Op: api.EText, S: s}
}

func of(op int, l ...api.GExpr) api.GExpr { return api.GExpr{Op: op, L: l} }

func bin(sign string, a, b api.GExpr) api.GExpr {
	return api.GExpr{Op: api.EBin, S: sign, L: []api.GExpr{a, b}}
}

func call(s string, l ...api.GExpr) api.GExpr { return api.GExpr{Op: api.ECall, S: s, L: l} }

func made(s string, l ...api.GExpr) api.GExpr { return api.GExpr{Op: api.EMake, S: s, L: l} }

func field(a api.GExpr, s string) api.GExpr {
	return api.GExpr{Op: api.EField, S: s, L: []api.GExpr{a}}
}

func named(s string) api.GType        { return api.GType{Op: api.GName, S: s} }
func list(t api.GType) api.GType      { return api.GType{Op: api.GList, L: []api.GType{t}} }
func let(a api.GExpr) api.GStmt       { return api.GStmt{Op: api.GLet, S: "x", X: a} }
func ret(a api.GExpr) api.GStmt       { return api.GStmt{Op: api.GRet, X: a} }
func do(a api.GExpr) api.GStmt        { return api.GStmt{Op: api.GDo, X: a} }
func set(a, b api.GExpr) api.GStmt    { return api.GStmt{Op: api.GSet, X: a, Y: b} }
func typed(t api.GType) api.GStmt     { return api.GStmt{Op: api.GVar, S: "v", T: t} }
func loop(l ...api.GStmt) api.GStmt   { return api.GStmt{Op: api.GFor, X: yes, L: l} }
func fork(l, m []api.GStmt) api.GStmt { return api.GStmt{Op: api.GIf, X: x, L: l, M: m} }

func stmts(l ...api.GStmt) []api.GStmt { return l }

func file(l ...api.GStmt) api.GFile {
	return api.GFile{Funcs: []api.GFunc{{S: "f", L: l}}}
}

// body is the text of file's function, of lines without the first tab.
func body(lines ...string) string {
	out := "package main\n\nfunc f() {\n"
	for _, line := range lines {
		out += "\t" + line + "\n"
	}
	return out + "}\n"
}

// checkFile holds Right and Show against a text; without one, the file is to
// be wrong.
func checkFile(t *testing.T, f api.GFile, want string) {
	t.Helper()
	right, wantErr := want != "", api.OK
	if !right {
		wantErr = api.ErrGo
	}
	if gotree.Right(f) != right {
		t.Errorf("Right(%s) = %v", brief(f), !right)
	}
	if s, e := gotree.Show(f); s != want || e != wantErr {
		t.Errorf("Show(%s) = %.300q, %d, not %.300q, %d", brief(f), s, e, want, wantErr)
	}
}

func brief(tree any) string { return fmt.Sprintf("%.300s", fmt.Sprint(tree)) }

// place is one where an expression may stand, and the lines of file's
// function around it.
type place struct {
	ahead, behind string
	use           func(api.GExpr) api.GStmt
}

func places() []place {
	return []place{
		{"x := ", "", let},
		{"return ", "", ret},
		{"y = ", "", func(a api.GExpr) api.GStmt { return set(y, a) }},
		{"", " = 1", func(a api.GExpr) api.GStmt { return set(a, one) }},
		{"if ", " {\n\t}", func(a api.GExpr) api.GStmt { return api.GStmt{Op: api.GIf, X: a} }},
		{"for ", " {\n\t}", func(a api.GExpr) api.GStmt { return api.GStmt{Op: api.GFor, X: a} }},
		{"for true {\n\t\tx := ", "\n\t}", func(a api.GExpr) api.GStmt { return loop(let(a)) }},
		{"if x {\n\t\tbreak\n\t\treturn ", "\n\t}", func(a api.GExpr) api.GStmt { return fork(stmts(leave, ret(a)), nil) }},
		{"if x {\n\t} else {\n\t\tbreak\n\t\t", " = 1\n\t}", func(a api.GExpr) api.GStmt { return fork(nil, stmts(leave, set(a, one))) }},
	}
}

// checkExpr holds RightExpr and ShowExpr against a text, and Right and Show at
// each place of a file; without a text, the expression is to be wrong.
func checkExpr(t *testing.T, a api.GExpr, want string) {
	t.Helper()
	right, wantErr := want != "", api.OK
	if !right {
		wantErr = api.ErrGo
	}
	if gotree.RightExpr(a) != right {
		t.Errorf("RightExpr(%s) = %v", brief(a), !right)
	}
	if s, e := gotree.ShowExpr(a); s != want || e != wantErr {
		t.Errorf("ShowExpr(%s) = %.300q, %d, not %.300q, %d", brief(a), s, e, want, wantErr)
	}
	for _, p := range places() {
		inFile := ""
		if right {
			inFile = body("break", p.ahead+want+p.behind, "break")
		}
		checkFile(t, file(leave, p.use(a), leave), inFile)
	}
}

// leastExprs are expressions without parts, or with names and numbers alone as
// parts, and their texts.
func leastExprs() map[string]api.GExpr {
	return map[string]api.GExpr{
		"x": x, "__": name("__"), "main": name("main"), "nil": name("nil"), strings.Repeat("a", 40): name(strings.Repeat("a", 40)),
		"0": num(0), "1": one, "1200": num(1200), "9223372036854775807": num(math.MaxInt64),
		`""`: quote(""), `"x"`: quote("x"), `"if"`: quote("if"), `"a\n\"\\\x00\xff\x7f, (b)."`: quote("a\n\"\\\x00\xff\x7f, (b)."), `"\x09"`: quote("\t"),
		"true": yes, "false": no,
		"(-1)": of(api.ENeg, one), "(-x)": of(api.ENeg, x), "(!x)": of(api.ENot, x), "(!true)": of(api.ENot, yes),
		"f()": call("f"), "f(x)": call("f", x), "f(x, 1, y)": call("f", x, one, y),
		"x[1]": of(api.EIndex, x, one), "1[x]": of(api.EIndex, one, x),
		"x[1:y]": of(api.ESlice, x, one, y), "y[x:1]": of(api.ESlice, y, x, one), "1[1:1]": of(api.ESlice, one, one, one),
		"x.C0": field(x, "C0"), "(1).a": field(one, "a"), "(0).a": field(num(0), "a"), "true.a": field(yes, "a"), `"s".a`: field(quote("s"), "a"),
		"(T{})": made("T"), "(T{x})": made("T", x), "(T{1, x, y})": made("T", one, x, y),
		"len(x)": of(api.ELen, x), "len(1)": of(api.ELen, one),
		"append(x, 1)": of(api.EAppend, x, one), "append(1, x)": of(api.EAppend, one, x),
		"int(x[1])": of(api.EAt, x, one), "int(1[x])": of(api.EAt, one, x),
	}
}

var signs = []string{"+", "-", "*", "/", "%", "==", "!=", "<", "<=", ">", ">=", "&&", "||"}

// P15.1
func TestExpressionsHaveTheirTexts(t *testing.T) {
	for want, a := range leastExprs() {
		checkExpr(t, a, want)
	}
	for _, sign := range signs {
		checkExpr(t, bin(sign, x, one), "(x "+sign+" 1)")
		checkExpr(t, bin(sign, one, x), "(1 "+sign+" x)")
	}
	for want, a := range map[string]api.GExpr{
		"(x + (-1))":                bin("+", x, of(api.ENeg, one)),
		"(T{1}).C0":                 field(made("T", one), "C0"),
		"(a + (b * c[1:2].d))":      bin("+", name("a"), bin("*", name("b"), field(of(api.ESlice, name("c"), one, num(2)), "d"))),
		"((x - y) - 1)":             bin("-", bin("-", x, y), one),
		"(x - (y - 1))":             bin("-", x, bin("-", y, one)),
		"(int(s[i]) - 48)":          bin("-", of(api.EAt, name("s"), name("i")), num(48)),
		"int((x + y)[(-1)])":        of(api.EAt, bin("+", x, y), of(api.ENeg, one)),
		"append(x, f(1))":           of(api.EAppend, x, call("f", one)),
		"x[1:len(x)]":               of(api.ESlice, x, one, of(api.ELen, x)),
		"append(append(x, y), 1)":   of(api.EAppend, of(api.EAppend, x, y), one),
		"(-(-1))":                   of(api.ENeg, of(api.ENeg, one)),
		"(!(!(-x)))":                of(api.ENot, of(api.ENot, of(api.ENeg, x))),
		"(-1).a":                    field(of(api.ENeg, one), "a"),
		"(1).a.b":                   field(field(one, "a"), "b"),
		"(1).a[(1).b]":              of(api.EIndex, field(one, "a"), field(one, "b")),
		"1[1].a":                    field(of(api.EIndex, one, one), "a"),
		"x.a.b.c":                   field(field(field(x, "a"), "b"), "c"),
		"x[1][y][0]":                of(api.EIndex, of(api.EIndex, of(api.EIndex, x, one), y), num(0)),
		"x[y[0]]":                   of(api.EIndex, x, of(api.EIndex, y, num(0))),
		"(T{(T{}), (U{(T{x})})})":   made("T", made("T"), made("U", made("T", x))),
		"f(g(), h(x, (y + 1))).f":   field(call("f", call("g"), call("h", x, bin("+", y, one))), "f"),
		"len(int(f()[0:1][y]))":     of(api.ELen, of(api.EAt, of(api.ESlice, call("f"), num(0), one), y)),
		"(\"a, b\" == \"\\\"\\n\")": bin("==", quote("a, b"), quote("\"\n")),
	} {
		checkExpr(t, a, want)
	}
}

// P15.1
func TestEachByteOfATextIsQuoted(t *testing.T) {
	for i := range 256 {
		want := string([]byte{byte(i)})
		switch {
		case i == '\n':
			want = `\n`
		case i == '"' || i == '\\':
			want = `\` + want
		case i < 0x20 || i > 0x7e:
			want = fmt.Sprintf(`\x%02x`, i)
		}
		checkExpr(t, quote(string([]byte{byte(i)})), `"`+want+`"`)
	}
}

// P15.1
func TestTypesHaveTheirTexts(t *testing.T) {
	for want, a := range map[string]api.GType{
		"int": intType, "string": textType, "bool": boolType, "T": named("T"), "__": named("__"), "list": named("list"), "Int": named("Int"),
		"[]int": list(intType), "[]string": list(textType), "[]bool": list(boolType), "[]T": list(named("T")), "[][][]T": list(list(list(named("T")))),
	} {
		checkType(t, a, want)
	}
}

// checkType holds Right and Show against a type's text at each place where one
// may stand; without a text, the type is to be wrong.
func checkType(t *testing.T, a api.GType, want string) {
	t.Helper()
	around := func(ahead, behind string) string {
		if want == "" {
			return ""
		}
		return "package main\n\n" + ahead + want + behind + "}\n"
	}
	two := []string{"a", "b"}
	structs := func(l ...api.GType) api.GFile {
		return api.GFile{Structs: []api.GStruct{{S: "S", Names: two[:len(l)], Types: l}}}
	}
	params := func(l ...api.GType) api.GFile {
		return api.GFile{Funcs: []api.GFunc{{S: "f", Names: two[:len(l)], Types: l}}}
	}
	checkFile(t, structs(a), around("type S struct {\n\ta ", "\n"))
	checkFile(t, structs(boolType, a), around("type S struct {\n\ta bool\n\tb ", "\n"))
	checkFile(t, params(a), around("func f(a ", ") {\n"))
	checkFile(t, params(a, boolType), around("func f(a ", ", b bool) {\n"))
	checkFile(t, params(boolType, a), around("func f(a bool, b ", ") {\n"))
	checkFile(t, api.GFile{Funcs: []api.GFunc{{S: "f", Ret: a}}}, around("func f() ", " {\n"))
	checkFile(t, file(typed(a)), around("func f() {\n\tvar v ", "\n"))
	checkFile(t, file(leave, loop(typed(a))), around("func f() {\n\tbreak\n\tfor true {\n\t\tvar v ", "\n\t}\n"))
}

// P15.1
func TestStatementsHaveTheirTexts(t *testing.T) {
	for want, l := range map[string][]api.GStmt{
		"var v int":                         {typed(intType)},
		"var v []T":                         {typed(list(named("T")))},
		"x := 1":                            {let(one)},
		"x = y":                             {set(x, y)},
		"x[1] = append(x, 1)":               {set(of(api.EIndex, x, one), of(api.EAppend, x, one))},
		"return":                            {ret(api.GExpr{})},
		"return x":                          {ret(x)},
		"g()":                               {do(call("g"))},
		"break":                             {leave},
		"break|break|return|return|break":   {leave, leave, ret(api.GExpr{}), ret(api.GExpr{}), leave},
		"for true {|}":                      {loop()},
		"for true {|>break|>return|}|break": {loop(leave, ret(api.GExpr{})), leave},
		"for (T{}).a {|}":                   {{Op: api.GFor, X: field(made("T"), "a")}},
		"if x {|}":                          {fork(nil, nil)},
		"if x {|>break|}":                   {fork(stmts(leave), nil)},
		"if x {|} else {|>break|}":          {fork(nil, stmts(leave))},
		"if x {|>break|} else {|>return|}|if x {|}":                                   {fork(stmts(leave), stmts(ret(api.GExpr{}))), fork(nil, nil)},
		"if x {|} else {|>if x {|>} else {|>>break|>}|}":                              {fork(nil, stmts(fork(nil, stmts(leave))))},
		"if x {|>if x {|>>break|>}|} else {|>break|}":                                 {fork(stmts(fork(stmts(leave), nil)), stmts(leave))},
		"if x {|>if x {|>} else {|>>break|>}|}":                                       {fork(stmts(fork(nil, stmts(leave))), nil)},
		"if x {|>for true {|>>break|>}|>x := 1|} else {|>for true {|>}|>g(1)|}|x = 1": {fork(stmts(loop(leave), let(one)), stmts(loop(), do(call("g", one)))), set(x, one)},
		"for true {|>for true {|>>for true {|>>>var v int|>>}|>}|}":                   {loop(loop(loop(typed(intType))))},
	} {
		lines := strings.Split(strings.ReplaceAll(want, ">", "\t"), "|")
		checkFile(t, file(l...), body(lines...))
		inner := []string{"for true {"}
		for _, line := range lines {
			inner = append(inner, "\t"+line)
		}
		checkFile(t, file(loop(l...), leave), body(append(inner, "}", "break")...))
	}
}

// manyThings is a file with one of each thing that files have.
func manyThings() api.GFile {
	s, i := name("s"), name("i")
	return api.GFile{
		Structs: []api.GStruct{
			{S: "R0", Names: []string{"C0", "C1"}, Types: []api.GType{intType, textType}},
			{S: "E"},
			{S: "L", Names: []string{"rows", "full"}, Types: []api.GType{list(named("R0")), boolType}},
		},
		Funcs: []api.GFunc{
			{S: "less", Names: []string{"a", "b"}, Types: []api.GType{named("R0"), named("R0")}, Ret: boolType, L: stmts(
				fork(stmts(ret(bin("<", field(name("a"), "C0"), field(name("b"), "C0")))), stmts(set(x, y), leave)),
				ret(bin("&&", of(api.ENot, yes), no)),
			)},
			{S: "nothing"},
			{S: "digits", Names: []string{"s"}, Types: []api.GType{textType}, Ret: list(intType), L: stmts(
				typed(list(list(intType))), typed(textType), typed(boolType), typed(named("L")),
				api.GStmt{Op: api.GLet, S: "i", X: num(0)},
				api.GStmt{Op: api.GFor, X: bin("<", i, of(api.ELen, s)), L: stmts(
					set(name("v"), of(api.EAppend, name("v"), bin("-", of(api.EAt, s, i), num(48)))),
					set(i, bin("+", i, one)),
					do(call("less", made("R0", of(api.EIndex, x, i), of(api.ESlice, s, i, num(9))), made("E"))),
				)},
				do(call("nothing")),
				ret(api.GExpr{}),
				let(of(api.ENeg, quote("a\n"))),
			)},
		},
	}
}

const manyThingsText = `package main

type R0 struct {
	C0 int
	C1 string
}

type E struct {
}

type L struct {
	rows []R0
	full bool
}

func less(a R0, b R0) bool {
	if x {
		return (a.C0 < b.C0)
	} else {
		x = y
		break
	}
	return ((!true) && false)
}

func nothing() {
}

func digits(s string) []int {
	var v [][]int
	var v string
	var v bool
	var v L
	i := 0
	for (i < len(s)) {
		v = append(v, (int(s[i]) - 48))
		i = (i + 1)
		less((R0{x[i], s[i:9]}), (E{}))
	}
	nothing()
	return
	x := (-"a\n")
}
`

// P15.1
func TestFilesHaveTheirTexts(t *testing.T) {
	checkFile(t, manyThings(), manyThingsText)
	checkFile(t, api.GFile{}, "package main\n")
	checkFile(t, api.GFile{Structs: []api.GStruct{}, Funcs: []api.GFunc{}}, "package main\n")
	same := api.GStruct{S: "T", Names: []string{"a", "a"}, Types: []api.GType{intType, named("T")}}
	checkFile(t, api.GFile{Structs: []api.GStruct{same, same}}, "package main\n"+strings.Repeat("\ntype T struct {\n\ta int\n\ta T\n}\n", 2))
	f := api.GFunc{S: "f", Names: []string{"f", "f"}, Types: []api.GType{intType, intType}, Ret: list(named("f"))}
	checkFile(t, api.GFile{Funcs: []api.GFunc{f, f}}, "package main\n"+strings.Repeat("\nfunc f(f int, f int) []f {\n}\n", 2))
	checkFile(t, api.GFile{Structs: []api.GStruct{{S: "b"}, {S: "a"}}, Funcs: []api.GFunc{{S: "d"}, {S: "c"}}},
		"package main\n\ntype b struct {\n}\n\ntype a struct {\n}\n\nfunc d() {\n}\n\nfunc c() {\n}\n")
	many := api.GFile{Structs: make([]api.GStruct, 3000), Funcs: make([]api.GFunc, 3000)}
	for i := range 3000 {
		many.Structs[i].S, many.Funcs[i].S = "T", "f"
	}
	checkFile(t, many, "package main\n"+strings.Repeat("\ntype T struct {\n}\n", 3000)+strings.Repeat("\nfunc f() {\n}\n", 3000))
}
