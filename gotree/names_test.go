package gotree_test

import (
	"regexp"
	"slices"
	"strings"
	"testing"

	"sorites/api"
	"sorites/gotree"
)

// takenWords is the document's line.
const takenWords = "package type struct func var if else for return break case chan const continue default defer fallthrough go goto import interface map range select switch true false int string bool len append"

var nameForm = regexp.MustCompile(`^[a-zA-Z_][a-zA-Z0-9_]{0,39}$`)

// isName is the document's word for it, written anew.
func isName(s string) bool {
	return nameForm.MatchString(s) && s != "_" && !slices.Contains(strings.Fields(takenWords), s)
}

// uses are all that has a name.
func uses(s string) []api.GFile {
	two, types := []string{"a", s}, []api.GType{intType, intType}
	out := []api.GFile{
		{Structs: []api.GStruct{{S: s}}},
		{Structs: []api.GStruct{{S: "T"}, {S: "U", Names: two, Types: types}}},
		{Funcs: []api.GFunc{{S: s}}},
		{Funcs: []api.GFunc{{S: "f"}, {S: "g", Names: two, Types: types}}},
		{Funcs: []api.GFunc{{S: "f", Ret: named(s)}}},
		file(leave, api.GStmt{Op: api.GVar, S: s, T: intType}),
		file(leave, api.GStmt{Op: api.GLet, S: s, X: one}),
		file(leave, typed(list(named(s)))),
	}
	for _, a := range namedExprs(s) {
		out = append(out, file(leave, ret(a)))
	}
	return out
}

func namedExprs(s string) []api.GExpr {
	return []api.GExpr{name(s), call(s), call(s, one), field(x, s), made(s), made(s, one, one), of(api.ENeg, name(s)), call("f", one, of(api.ELen, made(s)))}
}

// checkName holds IsName against what is asked for, and all that has a name
// against it.
func checkName(t *testing.T, s string, want bool) {
	t.Helper()
	if gotree.IsName(s) != want {
		t.Errorf("IsName(%.100q) = %v", s, !want)
	}
	for i, f := range uses(s) {
		if gotree.Right(f) != want {
			t.Errorf("use %d of %.100q: %v", i, s, !want)
		}
	}
	for i, a := range namedExprs(s) {
		if gotree.RightExpr(a) != want {
			t.Errorf("expression %d of %.100q: %v", i, s, !want)
		}
	}
}

// P15.1
func TestNames(t *testing.T) {
	for _, s := range []string{
		"a", "Z", "_a", "__", "_0", "A_b0", "R0", "less0x0", "from0x0n1", "iff", "main", "init", "nil", "make", "new", "iota", "error",
		"byte", "rune", "int64", "uint", "any", "print", "panic", "cap", "copy", "delete", "min", "max", "clear", "append_", "_int",
		"lenn", "le", "package1", "fallthroug", "fallthroughh", strings.Repeat("n", 40), strings.Repeat("_", 40),
	} {
		checkName(t, s, true)
	}
	for _, s := range []string{
		"", "_", "0", "1a", "a b", " a", "a ", "a\n", "a.b", "a-b", "a\x00", "\u00e4", "a\u00e4", "\u0430", "a\u0661", "\xff", "a\xff",
		"[]int", "*T", "func()", "if ", " if", strings.Repeat("n", 41), strings.Repeat("n", 1<<16),
	} {
		checkName(t, s, false)
	}
}

// P15.1
func TestTakenWordsAreNoNames(t *testing.T) {
	if n := len(strings.Fields(takenWords)); n != 32 {
		t.Errorf("%d words", n)
	}
	for _, s := range strings.Fields(takenWords) {
		checkName(t, s, false)
		for _, other := range []string{s + "_", "_" + s, s + "0", s + s, strings.ToUpper(s), strings.ToUpper(s[:1]) + s[1:], s[1:], s[:len(s)-1]} {
			checkName(t, other, isName(other))
		}
	}
}

// P15.1
func TestNamesByTheirBytes(t *testing.T) {
	for i := range 256 {
		for _, s := range []string{"", "a", "_", "i", "g", "in"} {
			for _, behind := range []string{"", "f", "o", "t"} {
				checkName(t, s+string([]byte{byte(i)})+behind, isName(s+string([]byte{byte(i)})+behind))
			}
		}
	}
}

// P15.1
func TestWordsOfFewLetters(t *testing.T) {
	texts := []string{""}
	for range 4 {
		var longer []string
		for _, s := range texts {
			for _, sign := range "aceforgtuilnv_I1" {
				longer = append(longer, s+string(sign))
			}
		}
		texts = longer
		for _, s := range texts {
			if gotree.IsName(s) != isName(s) {
				t.Errorf("IsName(%q) = %v", s, !isName(s))
			}
		}
	}
}
