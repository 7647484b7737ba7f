package dlex_test

import (
	"slices"
	"strings"
	"testing"

	"sorites/api"
	"sorites/dlex"
)

// P2.2
func TestTokensHaveTheirTexts(t *testing.T) {
	for _, c := range []struct {
		l    []api.Tok
		want string
	}{
		{nil, ""}, {[]api.Tok{}, ""},
		{[]api.Tok{tok(api.DIdent, "p", 1), tok(api.DSign, "(", 1), tok(api.DNum, "12", 9), tok(api.DSign, ")", -1)}, "p ( 12 ) "},
		{[]api.Tok{tok(api.DWord, ".decl", 1), tok(api.DText, "a\nb", 2), tok(api.DSign, ":-", 2)}, `.decl "a\nb" :- `},
		{[]api.Tok{tok(api.DText, "", 0), tok(api.DText, "\x00\"\\\xff", 0), tok(api.DText, "a b", 0)}, `"" "\x00\"\\\xff" "a b" `},
		{[]api.Tok{{}, {S: "q"}, tok(6, "\n", 0), tok(-3, "\"", 0), tok(api.DSign, "", 0), tok(api.DIdent, "a b", 0)}, " q \n \"  a b "},
	} {
		handed := slices.Clone(c.l)
		if s := dlex.Show(handed); s != c.want || !slices.Equal(handed, c.l) {
			t.Errorf("Show(%v) = %q", c.l, s)
		}
	}
}

// P2.2
func TestATextOfManyTokens(t *testing.T) {
	l := slices.Repeat([]api.Tok{tok(api.DIdent, "ab", 1), tok(api.DText, "\"", 1)}, 50000)
	if s := dlex.Show(l); s != strings.Repeat(`ab "\"" `, 50000) {
		t.Errorf("%d bytes", len(s))
	}
}

func withoutLines(l []api.Tok) []api.Tok {
	out := slices.Clone(l)
	for i := range out {
		out[i].Line = 0
	}
	return out
}

// P2.3
func TestWhatWasLexedIsLexedSoAgain(t *testing.T) {
	check := func(s string) {
		t.Helper()
		l, _, e := dlex.Lex(s)
		if e != api.OK {
			return
		}
		shown := dlex.Show(l)
		again, line, e := dlex.Lex(shown)
		if !slices.Equal(withoutLines(again), withoutLines(l)) || line != 0 || e != api.OK {
			t.Fatalf("%q is shown as %q, which is %v, %d, %d", s, shown, again, line, e)
		}
		if dlex.Show(again) != shown {
			t.Fatalf("%q is shown as %q, then %q", s, shown, dlex.Show(again))
		}
	}
	for s := range textsOf([]string{"a", "_", "0", "5", ".", ".decl", ":", "-", "=", "<", "!", "\"", "\\\"", "\n", "//"}, 4) {
		check(s)
	}
	for i := range 256 {
		check("\"" + string([]byte{byte(i)}) + "\"")
		check("\"\\x" + string("0123456789abcdef"[i>>4]) + string("0123456789abcdef"[i&15]) + "\"")
	}
	check(strings.Repeat("(", 20000))
	check(".decl e(x: number, s: symbol)\n.input e\nf(x) :- e(x, \"\\n\\x00\"), x > 1 + 2 * x. // c")
}

// P2.3
func TestBlanksAndCommentsMakeNoDifference(t *testing.T) {
	tokens := []string{"a", "_", "0", "17", `"b"`, `"// \" \n"`, ".decl", ".output", ".", ":", ":-", "!", "!=", "<", "<=", "-", "*"}
	gaps := []string{" ", "\t", "\n", "  \n\t", "//\n", "// c \"\n", " //:- \\\n\n\t"}
	for _, a := range tokens {
		for _, b := range tokens {
			plain, _, e := dlex.Lex(a + " " + b)
			if len(plain) != 2 || e != api.OK {
				t.Fatalf("%s %s: %v, %d", a, b, plain, e)
			}
			for _, gap := range gaps {
				s := gap + a + gap + b + gap
				l, _, e := dlex.Lex(s)
				if !slices.Equal(withoutLines(l), withoutLines(plain)) || e != api.OK {
					t.Fatalf("%q: %v, %d", s, l, e)
				}
			}
		}
	}
}

// R3
func TestAnswersShareNothing(t *testing.T) {
	const s = "a b c"
	one, _, _ := dlex.Lex(s)
	other, _, _ := dlex.Lex(s)
	for i := range one[:cap(one)] {
		one[:cap(one)][i] = tok(api.DSign, ":", 7)
	}
	again, _, _ := dlex.Lex(s)
	if told(other) != "1a 1b 1c" || told(again) != "1a 1b 1c" {
		t.Errorf("%v, %v", other, again)
	}
}
