package gotree_test

import (
	"fmt"
	"go/ast"
	"go/parser"
	"go/token"
	"math/rand"
	"reflect"
	"slices"
	"strconv"
	"strings"
	"testing"

	"sorites/api"
	"sorites/gotree"
)

// maker makes right files by chance.
type maker struct{ *rand.Rand }

func (m maker) name() string {
	names := []string{"x", "y", "T", "U0", "C0", "f", "less0x1", "nil", "main", "make", "iota", "_1", "Int", "lens", "append_", strings.Repeat("n", 40)}
	return names[m.Intn(len(names))]
}

func (m maker) text() string {
	signs := []string{"a", " ", "\"", "\\", "\n", "\x00", "\xff", "\u00e4", "{", "}", "//", "'", "`", "\\n", "\x7f"}
	out := ""
	for range m.Intn(4) {
		out += signs[m.Intn(len(signs))]
	}
	return out
}

func (m maker) typ(high int) api.GType {
	switch k := m.Intn(6); {
	case k >= 4 && high > 1:
		return list(m.typ(high - 1))
	case k == 3:
		return named(m.name())
	default:
		return api.GType{Op: 1 + k%3}
	}
}

// partsOf is how many parts a kind of expression has.
var partsOf = map[int]int{api.EBin: 2, api.ENeg: 1, api.ENot: 1, api.EIndex: 2, api.ESlice: 3, api.EField: 1, api.ELen: 1, api.EAppend: 2, api.EAt: 2}

func (m maker) expr(high int) api.GExpr {
	a := api.GExpr{Op: 1 + m.Intn(16)}
	if high <= 1 {
		a.Op = 1 + m.Intn(5)
	}
	count := partsOf[a.Op]
	switch a.Op {
	case api.ECall, api.EMake:
		count = m.Intn(4)
		fallthrough
	case api.EName, api.EField:
		a.S = m.name()
	case api.EText:
		a.S = m.text()
	case api.EBin:
		a.S = signs[m.Intn(len(signs))]
	case api.EInt:
		a.N = m.Int63() >> m.Intn(64)
	}
	for range count {
		a.L = append(a.L, m.expr(high-1))
	}
	return a
}

func (m maker) stmts(deep int) []api.GStmt {
	var out []api.GStmt
	for range m.Intn(4) {
		out = append(out, m.stmt(deep))
	}
	return out
}

func (m maker) stmt(deep int) api.GStmt {
	s := api.GStmt{Op: 1 + m.Intn(8)}
	if deep <= 1 && (s.Op == api.GIf || s.Op == api.GFor) {
		s.Op = api.GBreak
	}
	s.X = m.expr(4)
	switch s.Op {
	case api.GVar:
		s.S, s.T, s.X = m.name(), m.typ(4), api.GExpr{}
	case api.GLet:
		s.S = m.name()
	case api.GSet:
		s.Y = m.expr(3)
	case api.GIf:
		s.L, s.M = m.stmts(deep-1), m.stmts(deep-1)
	case api.GFor:
		s.L = m.stmts(deep - 1)
	case api.GDo:
		s.X = call(m.name(), m.expr(3))
	case api.GBreak:
		s.X = api.GExpr{}
	case api.GRet:
		if m.Intn(2) == 0 {
			s.X = api.GExpr{}
		}
	}
	return s
}

func (m maker) fields() (names []string, types []api.GType) {
	for range m.Intn(4) {
		names, types = append(names, m.name()), append(types, m.typ(3))
	}
	return names, types
}

func (m maker) file() api.GFile {
	var f api.GFile
	for range m.Intn(3) {
		names, types := m.fields()
		f.Structs = append(f.Structs, api.GStruct{S: m.name(), Names: names, Types: types})
	}
	for range m.Intn(3) {
		names, types := m.fields()
		g := api.GFunc{S: m.name(), Names: names, Types: types, L: m.stmts(4)}
		if m.Intn(2) == 0 {
			g.Ret = m.typ(3)
		}
		f.Funcs = append(f.Funcs, g)
	}
	return f
}

// What follows is the document's text of right trees, written anew.

func typeText(a api.GType) string {
	if a.Op == api.GList {
		return "[]" + typeText(a.L[0])
	}
	return map[int]string{api.GInt: "int", api.GText: "string", api.GBool: "bool", api.GName: a.S}[a.Op]
}

func quoted(s string) string {
	out := `"`
	for i := range len(s) {
		switch c := s[i]; {
		case c == '"' || c == '\\':
			out += `\` + string(rune(c))
		case c == '\n':
			out += `\n`
		case c < 0x20 || c > 0x7e:
			out += fmt.Sprintf(`\x%02x`, c)
		default:
			out += string(rune(c))
		}
	}
	return out + `"`
}

func exprText(a api.GExpr) string {
	form := map[int]string{
		api.EName: a.S, api.EInt: strconv.FormatInt(a.N, 10), api.ETrue: "true", api.EFalse: "false",
		api.EBin: "(0 " + a.S + " 1)", api.ENeg: "(-0)", api.ENot: "(!0)", api.ECall: a.S + "(*)", api.EIndex: "0[1]", api.ESlice: "0[1:2]",
		api.EField: "0." + a.S, api.EMake: "(" + a.S + "{*})", api.ELen: "len(0)", api.EAppend: "append(0, 1)", api.EAt: "int(0[1])",
	}[a.Op]
	var parts []string
	for _, part := range a.L {
		parts = append(parts, exprText(part))
	}
	switch a.Op {
	case api.EName, api.EInt:
		return form
	case api.EText:
		return quoted(a.S)
	case api.ECall, api.EMake:
		return strings.Replace(form, "*", strings.Join(parts, ", "), 1)
	case api.EField:
		if a.L[0].Op == api.EInt {
			return "(" + parts[0] + ")." + a.S
		}
		return parts[0] + "." + a.S
	}
	out := ""
	for _, sign := range form {
		if sign >= '0' && sign <= '2' {
			out += parts[sign-'0']
		} else {
			out += string(sign)
		}
	}
	return out
}

// linesOf are statements' lines, each with its tabs.
func linesOf(l []api.GStmt, tabs string) []string {
	var out []string
	for _, s := range l {
		line := map[int]string{
			api.GVar: "var " + s.S + " " + typeText(s.T), api.GLet: s.S + " := ", api.GIf: "if ", api.GFor: "for ", api.GRet: "return", api.GBreak: "break",
		}[s.Op]
		if s.Op == api.GRet && s.X.Op != 0 {
			line += " "
		}
		if s.X.Op != 0 {
			line += exprText(s.X)
		}
		if s.Op == api.GSet {
			line += " = " + exprText(s.Y)
		}
		if s.Op != api.GIf && s.Op != api.GFor {
			out = append(out, tabs+line)
			continue
		}
		out = append(append(out, tabs+line+" {"), linesOf(s.L, tabs+"\t")...)
		if len(s.M) > 0 {
			out = append(append(out, tabs+"} else {"), linesOf(s.M, tabs+"\t")...)
		}
		out = append(out, tabs+"}")
	}
	return out
}

func fileText(f api.GFile) string {
	out := []string{"package main"}
	for _, s := range f.Structs {
		out = append(out, "", "type "+s.S+" struct {")
		for i, a := range s.Types {
			out = append(out, "\t"+s.Names[i]+" "+typeText(a))
		}
		out = append(out, "}")
	}
	for _, g := range f.Funcs {
		var params []string
		for i, a := range g.Types {
			params = append(params, g.Names[i]+" "+typeText(a))
		}
		head := "func " + g.S + "(" + strings.Join(params, ", ") + ") "
		if g.Ret.Op != 0 {
			head += typeText(g.Ret) + " "
		}
		out = append(append(out, "", head+"{"), append(linesOf(g.L, "\t"), "}")...)
	}
	return strings.Join(out, "\n") + "\n"
}

// What follows makes a tree of what Go's own parser reads.

func readType(a ast.Expr) api.GType {
	switch a := a.(type) {
	case *ast.ArrayType:
		return list(readType(a.Elt))
	case *ast.Ident:
		if op, ok := map[string]int{"int": api.GInt, "string": api.GText, "bool": api.GBool}[a.Name]; ok {
			return api.GType{Op: op}
		}
		return named(a.Name)
	}
	return api.GType{}
}

func readExprs(op int, s string, l ...ast.Expr) api.GExpr {
	a := api.GExpr{Op: op, S: s}
	for _, part := range l {
		a.L = append(a.L, readExpr(part))
	}
	return a
}

func readExpr(a ast.Expr) api.GExpr {
	switch a := a.(type) {
	case *ast.ParenExpr:
		return readExpr(a.X)
	case *ast.Ident:
		if op, ok := map[string]int{"true": api.ETrue, "false": api.EFalse}[a.Name]; ok {
			return api.GExpr{Op: op}
		}
		return name(a.Name)
	case *ast.BasicLit:
		if a.Kind == token.STRING {
			s, _ := strconv.Unquote(a.Value)
			return quote(s)
		}
		n, _ := strconv.ParseInt(a.Value, 10, 64)
		return num(n)
	case *ast.BinaryExpr:
		return readExprs(api.EBin, a.Op.String(), a.X, a.Y)
	case *ast.UnaryExpr:
		return readExprs(map[token.Token]int{token.SUB: api.ENeg, token.NOT: api.ENot}[a.Op], "", a.X)
	case *ast.CallExpr:
		return readCall(a.Fun.(*ast.Ident).Name, a.Args)
	case *ast.IndexExpr:
		return readExprs(api.EIndex, "", a.X, a.Index)
	case *ast.SliceExpr:
		return readExprs(api.ESlice, "", a.X, a.Low, a.High)
	case *ast.SelectorExpr:
		return readExprs(api.EField, a.Sel.Name, a.X)
	case *ast.CompositeLit:
		return readExprs(api.EMake, a.Type.(*ast.Ident).Name, a.Elts...)
	}
	return api.GExpr{}
}

func readCall(s string, l []ast.Expr) api.GExpr {
	switch s {
	case "len":
		return readExprs(api.ELen, "", l...)
	case "append":
		return readExprs(api.EAppend, "", l...)
	case "int":
		of := l[0].(*ast.IndexExpr)
		return readExprs(api.EAt, "", of.X, of.Index)
	}
	return readExprs(api.ECall, s, l...)
}

func readStmts(l []ast.Stmt) []api.GStmt {
	var out []api.GStmt
	for _, s := range l {
		out = append(out, readStmt(s))
	}
	return out
}

func readStmt(s ast.Stmt) api.GStmt {
	switch s := s.(type) {
	case *ast.DeclStmt:
		v := s.Decl.(*ast.GenDecl).Specs[0].(*ast.ValueSpec)
		return api.GStmt{Op: api.GVar, S: v.Names[0].Name, T: readType(v.Type)}
	case *ast.AssignStmt:
		if s.Tok == token.DEFINE {
			return api.GStmt{Op: api.GLet, S: s.Lhs[0].(*ast.Ident).Name, X: readExpr(s.Rhs[0])}
		}
		return set(readExpr(s.Lhs[0]), readExpr(s.Rhs[0]))
	case *ast.IfStmt:
		out := api.GStmt{Op: api.GIf, X: readExpr(s.Cond), L: readStmts(s.Body.List)}
		if s.Else != nil {
			out.M = readStmts(s.Else.(*ast.BlockStmt).List)
		}
		return out
	case *ast.ForStmt:
		return api.GStmt{Op: api.GFor, X: readExpr(s.Cond), L: readStmts(s.Body.List)}
	case *ast.ReturnStmt:
		if len(s.Results) == 0 {
			return ret(api.GExpr{})
		}
		return ret(readExpr(s.Results[0]))
	case *ast.ExprStmt:
		return do(readExpr(s.X))
	}
	return leave
}

func readFields(l *ast.FieldList) (names []string, types []api.GType) {
	for _, f := range l.List {
		names, types = append(names, f.Names[0].Name), append(types, readType(f.Type))
	}
	return names, types
}

func readFile(s string) (api.GFile, error) {
	read, err := parser.ParseFile(token.NewFileSet(), "", s, parser.SkipObjectResolution)
	if err != nil {
		return api.GFile{}, err
	}
	var f api.GFile
	for _, d := range read.Decls {
		switch d := d.(type) {
		case *ast.GenDecl:
			spec := d.Specs[0].(*ast.TypeSpec)
			names, types := readFields(spec.Type.(*ast.StructType).Fields)
			f.Structs = append(f.Structs, api.GStruct{S: spec.Name.Name, Names: names, Types: types})
		case *ast.FuncDecl:
			names, types := readFields(d.Type.Params)
			g := api.GFunc{S: d.Name.Name, Names: names, Types: types, L: readStmts(d.Body.List)}
			if d.Type.Results != nil {
				g.Ret = readType(d.Type.Results.List[0].Type)
			}
			f.Funcs = append(f.Funcs, g)
		}
	}
	return f, nil
}

// P15.1, P15.2
func TestFilesMadeByChanceAreReadFromTheirTexts(t *testing.T) {
	m := maker{rand.New(rand.NewSource(15))}
	seen := map[string]api.GFile{}
	kinds := map[int]int{}
	for range 5000 {
		f := m.file()
		s, e := gotree.Show(f)
		if want := fileText(f); s != want || e != api.OK || !gotree.Right(f) {
			t.Fatalf("Show(%v) = %q, %d, not %q", f, s, e, want)
		}
		read, err := readFile(s)
		if err != nil || !reflect.DeepEqual(read, f) || !gotree.Same(read, f) {
			t.Fatalf("%q is read as %v, not %v: %v", s, read, f, err)
		}
		if other, ok := seen[s]; ok != gotree.Same(other, f) && len(f.Structs)+len(f.Funcs) > 0 {
			t.Fatalf("%v and %v", f, other)
		}
		seen[s] = f
		for _, g := range f.Funcs {
			for _, l := range g.L {
				kinds[l.Op]++
			}
		}
	}
	if len(kinds) != 8 || len(seen) < 3000 {
		t.Errorf("%v, %d", kinds, len(seen))
	}
}

// P15.1, P15.2
func TestExpressionsMadeByChanceAreReadFromTheirTexts(t *testing.T) {
	m := maker{rand.New(rand.NewSource(16))}
	for range 20000 {
		a := m.expr(1 + m.Intn(6))
		s, e := gotree.ShowExpr(a)
		if want := exprText(a); s != want || e != api.OK || !gotree.RightExpr(a) {
			t.Fatalf("ShowExpr(%v) = %q, %d, not %q", a, s, e, want)
		}
		read, err := parser.ParseExpr(s)
		if err != nil || !reflect.DeepEqual(readExpr(read), a) {
			t.Fatalf("%q is read as %v, not %v: %v", s, read, a, err)
		}
	}
}

// P15.2
func TestUnlikeExpressionsHaveUnlikeTexts(t *testing.T) {
	var all []api.GExpr
	for _, a := range leastExprs() {
		all = append(all, a)
	}
	for _, a := range slices.Clone(all) {
		for _, hold := range holders() {
			all = append(all, hold(a))
		}
	}
	seen := map[string]api.GExpr{}
	for _, a := range all {
		s, e := gotree.ShowExpr(a)
		if e != api.OK {
			t.Fatalf("%v: %d", a, e)
		}
		if other, ok := seen[s]; ok && !gotree.Same(file(ret(a)), file(ret(other))) {
			t.Errorf("%q is the text of %v and of %v", s, a, other)
		}
		seen[s] = a
	}
	if len(seen) < 900 {
		t.Errorf("%d texts", len(seen))
	}
}

// What follows is the document's word for which trees are right, written anew.

func isRightType(a api.GType, high int) bool {
	if high == 0 || !has(typeForms, a.Op, classOf(a.S)+strconv.Itoa(len(a.L))) {
		return false
	}
	return !slices.ContainsFunc(a.L, func(part api.GType) bool { return !isRightType(part, high-1) })
}

func isRightExpr(a api.GExpr, high int) bool {
	sign := "0"
	if a.N > 0 {
		sign = "p"
	} else if a.N < 0 {
		sign = "-"
	}
	if high == 0 || !has(exprForms, a.Op, classOf(a.S)+sign+strconv.Itoa(len(a.L))) {
		return false
	}
	return !slices.ContainsFunc(a.L, func(part api.GExpr) bool { return !isRightExpr(part, high-1) })
}

func exprClass(a api.GExpr) string {
	switch {
	case a.Op == 0 && a.S == "" && a.N == 0 && len(a.L) == 0:
		return "e"
	case !isRightExpr(a, 60):
		return "w"
	case a.Op == api.ECall:
		return "c"
	}
	return "r"
}

func listClass(l []api.GStmt, deep int) string {
	if len(l) == 0 {
		return "e"
	}
	if slices.ContainsFunc(l, func(s api.GStmt) bool { return !isRightStmt(s, deep) }) {
		return "w"
	}
	return "r"
}

func typeClass(a api.GType) string {
	if a.Op == 0 && a.S == "" && len(a.L) == 0 {
		return "e"
	} else if isRightType(a, 60) {
		return "r"
	}
	return "w"
}

func isRightStmt(s api.GStmt, deep int) bool {
	class := strings.Replace(classOf(s.S), "s", "w", 1) + typeClass(s.T) + exprClass(s.X) + exprClass(s.Y) + listClass(s.L, deep-1) + listClass(s.M, deep-1)
	return deep > 0 && has(stmtForms, s.Op, class)
}

func areRightFields(s string, names []string, types []api.GType) bool {
	return isName(s) && len(names) == len(types) && len(names) <= 200 &&
		!slices.ContainsFunc(names, func(s string) bool { return !isName(s) }) &&
		!slices.ContainsFunc(types, func(a api.GType) bool { return !isRightType(a, 60) })
}

func isRightFile(f api.GFile) bool {
	for _, s := range f.Structs {
		if !areRightFields(s.S, s.Names, s.Types) {
			return false
		}
	}
	for _, g := range f.Funcs {
		if !areRightFields(g.S, g.Names, g.Types) || typeClass(g.Ret) == "w" || listClass(g.L, 40) == "w" {
			return false
		}
	}
	return true
}

// change makes one thing of a tree, taken by chance, another.
func (m maker) change(v reflect.Value) {
	var ends []func()
	var walk func(reflect.Value)
	walk = func(v reflect.Value) {
		switch v.Kind() {
		case reflect.Struct:
			for i := range v.NumField() {
				walk(v.Field(i))
			}
		case reflect.Slice:
			ends = append(ends, func() {
				switch n := v.Len(); {
				case n > 0 && m.Intn(2) == 0:
					v.Set(v.Slice(0, n-1))
				case n > 0 && m.Intn(2) == 0:
					v.Set(reflect.Append(v, v.Index(m.Intn(n))))
				default:
					v.Set(reflect.Append(v, reflect.Zero(v.Type().Elem())))
				}
			})
			for i := range v.Len() {
				walk(v.Index(i))
			}
		case reflect.String:
			ends = append(ends, func() {
				texts := []string{"", "x", "if", "+", "<=", "_", m.name()}
				v.SetString(texts[m.Intn(len(texts))])
			})
		default:
			ends = append(ends, func() { v.SetInt(int64(m.Intn(20) - 2)) })
		}
	}
	walk(v)
	ends[m.Intn(len(ends))]()
}

// P15.1
func TestFilesWithOneThingChangedByChance(t *testing.T) {
	m := maker{rand.New(rand.NewSource(17))}
	right, wrong := 0, 0
	for range 6000 {
		seed := m.Int63()
		f, was := maker{rand.New(rand.NewSource(seed))}.file(), maker{rand.New(rand.NewSource(seed))}.file()
		m.change(reflect.ValueOf(&f).Elem())
		want, wantErr, text := isRightFile(f), api.ErrGo, ""
		if want {
			right, wantErr, text = right+1, api.OK, fileText(f)
		} else {
			wrong++
		}
		if s, e := gotree.Show(f); gotree.Right(f) != want || s != text || e != wantErr {
			t.Fatalf("Show(%v) = %q, %d, not %q, %d", f, s, e, text, wantErr)
		}
		// A thing may have been set to what it was.
		if alike := fmt.Sprintf("%#v", f) == fmt.Sprintf("%#v", was); gotree.Same(f, was) != alike || gotree.Same(was, f) != alike {
			t.Fatalf("Same(%v, %v) = %v", f, was, !alike)
		}
	}
	if right < 500 || wrong < 3000 {
		t.Errorf("%d right, %d wrong", right, wrong)
	}
}
