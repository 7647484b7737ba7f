package dlex_test

import (
	"slices"
	"strconv"
	"strings"
	"testing"

	"sorites/api"
	"sorites/dlex"
)

func tok(kind int, s string, line int) api.Tok { return api.Tok{Kind: kind, S: s, Line: line} }

// told are tokens as one text, to be held against others at a glance: the
// kind of each ahead of what it says, and its line where it changes.
func told(l []api.Tok) string {
	var out []string
	line := 1
	for _, t := range l {
		if t.Line != line {
			out, line = append(out, "/"+strconv.Itoa(t.Line)), t.Line
		}
		out = append(out, strconv.Itoa(t.Kind)+t.S)
	}
	return strings.Join(out, " ")
}

// P2.1
func TestTokens(t *testing.T) {
	for _, c := range []struct{ s, want string }{
		{"", ""}, {" \t\n \n", ""}, {"// c", ""}, {"//", ""}, {"//\n//\n", ""}, {"\n// a // \"b\n", ""},
		{"p(x) :- q(x). // c", "1p 4( 1x 4) 4:- 1q 4( 1x 4) 4."},
		{".decl e(x: number, s: symbol)", "5.decl 1e 4( 1x 4: 1number 4, 1s 4: 1symbol 4)"},
		{".input e .output e e(3).", "5.input 1e 5.output 1e 1e 4( 23 4) 4."},
		{"c(n) :- n = count : { e(_, x) }, !d(n).", "1c 4( 1n 4) 4:- 1n 4= 1count 4: 4{ 1e 4( 1_ 4, 1x 4) 4} 4, 4! 1d 4( 1n 4) 4."},
		{"x<-1", "1x 4< 4- 21"}, {"x:-1", "1x 4:- 21"}, {"x: -1", "1x 4: 4- 21"}, {"a>=b", "1a 4>= 1b"}, {"a=>b", "1a 4= 4> 1b"},
		{"( ) { } , . : :- ! != = < <= > >= + - *", "4( 4) 4{ 4} 4, 4. 4: 4:- 4! 4!= 4= 4< 4<= 4> 4>= 4+ 4- 4*"},
		{"!!==<<==>>==:::--:-", "4! 4!= 4= 4< 4<= 4= 4> 4>= 4= 4: 4: 4:- 4- 4:-"},
		{"! = : - < = > =", "4! 4= 4: 4- 4< 4= 4> 4="},
		{"a//b\nc", "1a /2 1c"}, {"a // \xff\x00\r\"\nb", "1a /2 1b"}, {"1//", "21"}, {"\"//\"a", "3// 1a"},
		{"_ _a a_ A0 _0 __ decl number count", "1_ 1_a 1a_ 1A0 1_0 1__ 1decl 1number 1count"},
		{"0 1 10 9223372036854775807", "20 21 210 29223372036854775807"},
		{"-0 -5 0-0", "4- 20 4- 25 20 4- 20"}, {"1.5 1. .5", "21 4. 25 21 4. 4. 25"}, {"1\"a\"2(", "21 3a 22 4("},
		{".decl.input.output", "5.decl 5.input 5.output"}, {".declX .decl_ .decl1 .decl.", "5.decl 1X 5.decl 1_ 5.decl 21 5.decl 4."},
		{".X ._ .. . decl ..decl", "4. 1X 4. 1_ 4. 4. 4. 1decl 4. 5.decl"},
		{`"" "a" "a b" "a\"b" "\\" "\\\"" "\x07"`, "3 3a 3a b 3a\"b 3\\ 3\\\" 3\x07"}, {`"a""b"c`, "3a 3b 1c"}, {`"a\n"`, "3a\n"},
	} {
		l, line, e := dlex.Lex(c.s)
		if told(l) != c.want || line != 0 || e != api.OK {
			t.Errorf("Lex(%q) = %q, %d, %d", c.s, told(l), line, e)
		}
	}
}

// P2.1
func TestTokensHaveTheirLines(t *testing.T) {
	l, line, e := dlex.Lex("\n a // b\n\n// c\n\"\\n\\n\" 1\n\t(\n\n")
	want := []api.Tok{tok(api.DIdent, "a", 2), tok(api.DText, "\n\n", 5), tok(api.DNum, "1", 5), tok(api.DSign, "(", 6)}
	if !slices.Equal(l, want) || line != 0 || e != api.OK {
		t.Errorf("%v, %d, %d", l, line, e)
	}
	l, _, _ = dlex.Lex(strings.Repeat("\n", 65535) + "a")
	if !slices.Equal(l, []api.Tok{tok(api.DIdent, "a", 65536)}) {
		t.Errorf("%v", l)
	}
}

// P2.1, R2
func TestWhatIsNoTokenIsRefused(t *testing.T) {
	for _, s := range []string{
		"#", "/", "a/b", "/ /", "1/", ";", "[", "]", "'", "`", "$", "%", "&", "|", "?", "@", "\\", "^", "~",
		"\r", "\v", "\f", "\x00", "\x7f", "\x80", "\xff", "\u00e4", "\u00a0", "\u0661", "a\u00e4", "1\u0661", "\ufeffa",
		"00", "01", "007", "-01", "1a", "1_", "0x1", "0a", "1e3", "12A", "0_", "1decl", "9223372036854775808",
		"9223372036854775807a", "10000000000000000000", "18446744073709551616", strings.Repeat("9", 100),
		".a", ".foo", ".dec", ".declx", ".declare", ".inputs", ".out", ".decldecl", "p(1).q(2)", "1.a", "..a", ".inputX.x",
		strings.Repeat("a", 41), "_" + strings.Repeat("0", 40), strings.Repeat("_", 41), strings.Repeat("a", 1000),
		`"`, `"a`, `"""`, `"\"`, `"a\`, `"a\"`, `"\a"`, `"\t"`, `"\x"`, `"\x0"`, `"\x41"`, `"\x0a"`, `"\xAB"`, `"\x0g"`,
		"\"a\nb\"", "\"a\n\"", "\"a\\\n\"", "\"\t\"", "\"\x7f\"", "\"\xff\"", "\"\u00e4\"", "\"//\n\"",
	} {
		for _, around := range []struct {
			ahead, behind string
			line          int
		}{{"", "", 1}, {"p \"q\" 3 .decl :- ", " r", 1}, {"\n// c\n", "\n#", 3}, {"a\n", "\n", 2}} {
			l, line, e := dlex.Lex(around.ahead + s + around.behind)
			if len(l) != 0 || line != around.line || e != api.ErrLex {
				t.Errorf("Lex(%q) = %v, %d, %d", around.ahead+s+around.behind, l, line, e)
			}
		}
	}
}

// P2.1
func TestIdentsHaveAtMostFortyBytes(t *testing.T) {
	for n := 1; n < 100; n++ {
		for _, first := range []string{"a", "Z", "_"} {
			s := first + strings.Repeat("0", n-1)
			l, line, e := dlex.Lex("(\n" + s + ")")
			if n <= 40 && (told(l) != "4( /2 1"+s+" 4)" || e != api.OK) {
				t.Errorf("%d bytes: %v, %d, %d", n, l, line, e)
			}
			if n > 40 && (len(l) != 0 || line != 2 || e != api.ErrLex) {
				t.Errorf("%d bytes: %v, %d, %d", n, l, line, e)
			}
		}
	}
}

// P2.1, R2
func TestTextsHaveAtMostSoManyBytes(t *testing.T) {
	for _, fill := range []string{" ", "\n", "/", "\t"} {
		whole := "a" + strings.Repeat(fill, 65535)
		if l, line, e := dlex.Lex(whole); told(l) != "1a" || line != 0 || e != api.OK {
			t.Errorf("%q at most: %d tokens, %d, %d", fill, len(l), line, e)
		}
		for _, behind := range []string{" ", "#", "\x00", strings.Repeat("a", 1<<20)} {
			if l, line, e := dlex.Lex(whole + behind); len(l) != 0 || line != 0 || e != api.ErrLong {
				t.Errorf("%q and more: %d tokens, %d, %d", fill, len(l), line, e)
			}
		}
	}
	long := strings.Repeat("b", 65534)
	if l, _, e := dlex.Lex("\"" + long + "\""); told(l) != "3"+long || e != api.OK {
		t.Errorf("a long symbol: %d tokens, %d", len(l), e)
	}
	if l, line, e := dlex.Lex("#" + strings.Repeat("\n", 65536)); len(l) != 0 || line != 0 || e != api.ErrLong {
		t.Errorf("wrong and too long: %v, %d, %d", l, line, e)
	}
}

// P2.1, R2
func TestTextsHaveAtMostSoManyTokens(t *testing.T) {
	most := strings.Repeat("(\n", 20000)
	for _, behind := range []string{"", "\n\n", "// (", "\t"} {
		if l, line, e := dlex.Lex(most + behind); len(l) != 20000 || line != 0 || e != api.OK {
			t.Errorf("%q behind the last one: %d, %d, %d", behind, len(l), line, e)
		}
	}
	for _, behind := range []string{"a", "0", `"a"`, ":-", ".", ".decl", ". decl", "( #", "( ( ("} {
		if l, line, e := dlex.Lex(most + "\n" + behind); len(l) != 0 || line != 20002 || e != api.ErrLong {
			t.Errorf("%q as one more: %d, %d, %d", behind, len(l), line, e)
		}
	}
	for _, behind := range []string{"#", "01", "1a", `"a`, "/", ".dec", strings.Repeat("a", 41), "\xff"} {
		if l, line, e := dlex.Lex(most + behind); len(l) != 0 || line != 20001 || e != api.ErrLex {
			t.Errorf("%q as one more: %d, %d, %d", behind, len(l), line, e)
		}
	}
	if l, line, e := dlex.Lex("#" + most + "("); len(l) != 0 || line != 1 || e != api.ErrLex {
		t.Errorf("wrong ahead: %d, %d, %d", len(l), line, e)
	}
}
