package dread_test

import (
	"slices"
	"strconv"
	"strings"
	"testing"

	"sorites/api"
	"sorites/dread"
	"sorites/dtree"
)

// sumOf is a sum of so many things: it is as many levels high.
func sumOf(n int) string { return "x" + strings.Repeat(" + 1", n-1) }

// within is so high, too, but nested to the right, by brackets.
func within(n int) string { return strings.Repeat("(1 - ", n-1) + "x" + strings.Repeat(")", n-1) }

// parted is so many times a text, with commas between.
func parted(s string, n int) string { return strings.Join(slices.Repeat([]string{s}, n), ", ") }

// P4.1
func TestAtMostSoManyTokens(t *testing.T) {
	p := lexed(t, "p(1) :- q(1).")
	brackets := func(n int) []api.Tok {
		l := slices.Clone(p[:7])
		l = append(l, slices.Repeat([]api.Tok{{Kind: api.DSign, S: "("}}, n)...)
		l = append(l, p[2])
		l = append(l, slices.Repeat([]api.Tok{{Kind: api.DSign, S: ")"}}, n)...)
		return append(l, p[3], p[9])
	}
	l := brackets(9995)
	if got, line, e := dread.Parse(l); len(l) != 20000 || len(got.Rules) != 1 || line != 0 || e != api.OK {
		t.Errorf("%d tokens: %v, %d, %d", len(l), got, line, e)
	}
	for _, l := range [][]api.Tok{append(l, p[9]), brackets(9996), append(slices.Clone(p), make([]api.Tok, 19991)...), make([]api.Tok, 20001), make([]api.Tok, 100000)} {
		if got, line, e := dread.Parse(l); !isNothing(got) || line != 0 || e != api.ErrLong {
			t.Errorf("%d tokens: %v, %d, %d", len(l), got, line, e)
		}
	}
	if got, line, e := dread.Parse(make([]api.Tok, 20000)); !isNothing(got) || line != 0 || e != api.ErrParse {
		t.Errorf("%v, %d, %d", got, line, e)
	}
}

// P4.1, R1
func TestManyTokensOfAKind(t *testing.T) {
	for _, s := range []string{"(", ")", "-", "!", ",", ".", ":-", "p", "1", "p(1).", "p(", "- 1", "x +", "x *", "( x +", "( 1 *", "\"a\"", ".decl", ".input", ".decl p(a: number)"} {
		for _, ahead := range []string{"", "p(", "p(1) :- ", "p(1) :- x = ", "p(1) :- q("} {
			l := lexed(t, ahead)
			for piece := lexed(t, s); len(l)+len(piece) <= 20000; {
				l = append(l, piece...)
			}
			if p, _, e := dread.Parse(l); !isNothing(p) || e == api.OK {
				t.Errorf("%q, then %q: %d", ahead, s, e)
			}
		}
	}
}

// P4.1
func TestExpressionsAreAtMostSoHigh(t *testing.T) {
	deep := map[string]func(int) string{
		"to the left":  sumOf,
		"to the right": within,
		"products":     func(n int) string { return "x" + strings.Repeat(" * y", n-1) },
		"both": func(n int) string {
			return "1 + " + strings.Repeat("(2 * ", n/2-1) + within(n-n/2) + strings.Repeat(")", n/2-1)
		},
		"bracketed":   func(n int) string { return "((" + sumOf(n) + "))" },
		"negative":    func(n int) string { return "-1" + strings.Repeat(" - 1", n-1) },
		"one product": func(n int) string { return sumOf(n-1) + " + 2 * 3" },
		"within":      func(n int) string { return "(" + sumOf(n-2) + ") * 2 - 7" },
		"in brackets": func(n int) string { return strings.Repeat("(", 50) + sumOf(n) + strings.Repeat(")", 50) },
	}
	for what, text := range deep {
		for n := 18; n <= 20; n++ {
			p, line, e := dread.Parse(lexed(t, "p(1) :- q(_, "+text(n)+"), "+text(n)+" < "+text(n)+", !q("+text(n)+"), n = count : { q("+text(n)+") }."))
			if !dtree.Right(p) || len(p.Rules) != 1 || line != 0 || e != api.OK {
				t.Errorf("%s, %d: %d, %d", what, n, line, e)
			}
		}
		for _, n := range []int{21, 22, 41, 1000} {
			for _, behind := range []string{"", " .", " = 1.", " ) .", " x", " , 1", " {", " .decl"} {
				checkWrong(t, "p(1) :- @"+text(n)+behind, api.ErrDeep)
				checkWrong(t, "p(1) :- q(x), y != @"+text(n)+behind, api.ErrDeep)
				checkWrong(t, "p(1) :- q(_, 1, @"+text(n)+behind, api.ErrDeep)
				checkWrong(t, "p(1) :- !q(@"+text(n)+behind, api.ErrDeep)
				checkWrong(t, "p(1) :- 3 = sum x : { q(@"+text(n)+behind, api.ErrDeep)
				checkWrong(t, "p(@"+text(n)+behind, api.ErrDeep)
			}
			checkWrong(t, "p(1) :- @"+text(n)+" = count : { q(1) }.", api.ErrDeep)
			// What is wrong ahead of the expression's end is met ahead of its height.
			checkWrong(t, "p(1) :- q("+text(n)+" + @).", api.ErrParse)
			checkWrong(t, "p(1) :- ("+text(n)+"@.", api.ErrParse)
			checkWrong(t, "p(1) :- "+text(n)+" @* \"a\" = 1.", api.ErrParse)
			checkWrong(t, "p(1) :- "+text(n)+" +", api.ErrParse)
		}
	}
}

// P4.1
func TestRulesHaveAtMostSoManyParts(t *testing.T) {
	for _, part := range []string{"q(1)", "!q(x)", "x = 1", "x > y", "n = count : { q(1) }", "(x) < 2"} {
		for n := 1; n <= 20; n++ {
			p, line, e := dread.Parse(lexed(t, "p(1) :- "+parted(part, n)+"."))
			if len(p.Rules) != 1 || len(p.Rules[0].Body) != n || !dtree.Right(p) || line != 0 || e != api.OK {
				t.Errorf("%q, %d: %d, %d", part, n, line, e)
			}
		}
		for _, behind := range []string{part, part + ".", ".", ",", ")", "1", "\"a\" + 1", "_", ".decl", sumOf(30) + " = 1", ""} {
			mark := "@"
			if behind == "" {
				mark = ""
			}
			checkWrong(t, "p(1) :- "+parted(part, 20)+", "+mark+behind, api.ErrLong)
			checkWrong(t, "p(1). r(1) :- "+parted(part, 20)+". p(1) :- "+parted(part, 20)+", "+mark+behind, api.ErrLong)
		}
		checkWrong(t, "p(1) :- "+parted(part, 20)+" @"+part, api.ErrParse)
	}
}

// P4.1
func TestAtomsHaveAtMostSoManyArguments(t *testing.T) {
	atoms := []string{"p(%", "p(1) :- q(%", "p(1) :- q(1), !q(%", "p(1) :- n = count : { q(%", "p(1) :- n = max x : { q(%"}
	for _, ahead := range atoms {
		ahead = strings.TrimSuffix(ahead, "%")
		end := ")"
		if strings.Contains(ahead, "{") {
			end = ") }"
		}
		for n := 1; n <= 8; n++ {
			p, line, e := dread.Parse(lexed(t, ahead+parted("1", n)+end+"."))
			if len(p.Rules) != 1 || !dtree.Right(p) || line != 0 || e != api.OK {
				t.Errorf("%q, %d: %d, %d", ahead, n, line, e)
			}
		}
		for _, behind := range []string{"1" + end + ".", ")", ",", "_", "(", "\"a\" + 1", sumOf(30), ".decl", "{", ""} {
			mark := "@"
			if behind == "" {
				mark = ""
			}
			checkWrong(t, ahead+parted("1", 8)+", "+mark+behind, api.ErrLong)
		}
		checkWrong(t, ahead+parted("1", 8)+" @1", api.ErrParse)
	}
}

// P4.1
func TestRelationsHaveAtMostSoManyColumns(t *testing.T) {
	for n := 1; n <= 8; n++ {
		checkRead(t, ".decl p("+parted("a: symbol", n)+")", ".decl p("+parted("a: symbol", n)+")\n")
	}
	for _, behind := range []string{"a: number)", ")", ",", "a", "1", "_", ".decl", "(", ""} {
		mark := "@"
		if behind == "" {
			mark = ""
		}
		checkWrong(t, ".decl p("+parted("a: number", 8)+", "+mark+behind, api.ErrLong)
	}
	checkWrong(t, ".decl p("+parted("a: number", 8)+" @a: number)", api.ErrParse)
}

// P4.1
func TestProgramsHaveAtMostSoManyRelations(t *testing.T) {
	var most strings.Builder
	for i := range 60 {
		most.WriteString(".decl p" + strconv.Itoa(i) + "(a: number)\n")
	}
	checkRead(t, most.String(), most.String())
	checkRead(t, most.String()+"p(1).", most.String()+"p(1).\n")
	if p, _, e := dread.Parse(lexed(t, most.String()+".input p59 .output p0")); !p.Decls[59].In || !p.Decls[0].Out || e != api.OK {
		t.Errorf("%d", e)
	}
	for _, between := range []string{"", "p(1).", ".input p3 p(2).", strings.Repeat("p(1). ", 200)} {
		for _, behind := range []string{"", " q(a: number)", ".decl", " 1", ")"} {
			checkWrong(t, most.String()+between+" @.decl "+behind, api.ErrLong)
		}
	}
	checkWrong(t, strings.Repeat(".decl p(a: number)", 60)+"@.decl p(a: number)", api.ErrLong)
}

// P4.1
func TestProgramsHaveAtMostSoManyRules(t *testing.T) {
	for _, rule := range []string{"p(1).", "p(x) :- q(x)."} {
		most := strings.Repeat(rule+"\n", 200)
		checkRead(t, most, most)
		checkRead(t, most+".decl p(a: number) .input p", ".decl p(a: number)\n.input p\n"+most)
		checkRead(t, ".decl p(a: number) "+most+".output p", ".decl p(a: number)\n.output p\n"+most)
		for _, behind := range []string{"p(1).", "p", "_", "1", "\"a\"", ")", ".", ":-", "!", ",", "p(_)", "p(x)."} {
			checkWrong(t, most+"@"+behind, api.ErrLong)
			checkWrong(t, most+".decl p(a: number) .input p @"+behind, api.ErrLong)
			checkWrong(t, most+".decl p(a: number) .input @1 "+behind, api.ErrParse)
		}
		l := eachOnALine(lexed(t, most))
		for _, tok := range []api.Tok{{}, {Kind: api.DWord, S: ".foo"}, {Kind: api.DSign, S: ".decl"}, {Kind: api.DText, S: ".input"}, {Kind: api.DIdent, S: ".output"}, {Kind: 77, S: ".decl"}} {
			tok.Line = 77
			if p, line, e := dread.Parse(append(l, tok)); !isNothing(p) || line != 77 || e != api.ErrLong {
				t.Errorf("%v: %v, %d, %d", tok, p, line, e)
			}
		}
		checkWrong(t, most+"@.input p", api.ErrParse)
		checkWrong(t, most+".decl @(", api.ErrParse)
	}
}
