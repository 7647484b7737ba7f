package text_test

import (
	"fmt"
	"iter"
	"regexp"
	"strings"
	"testing"

	"sorites/api"
	"sorites/text"
)

// symbolForm is what the document calls a symbol's text.
var symbolForm = regexp.MustCompile(`^"([ !#-\[\]-~]|\\["\\n]|\\x(0[0-9b-f]|1[0-9a-f]|7f|[89a-f][0-9a-f]))*"$`)

// textsOf goes through all texts of some signs, up to a length.
func textsOf(signs string, longest int) iter.Seq[string] {
	return func(yield func(string) bool) {
		var from func(s string) bool
		from = func(s string) bool {
			if !yield(s) {
				return false
			}
			for i := 0; i < len(signs) && len(s) < longest; i++ {
				if !from(s + signs[i:i+1]) {
					return false
				}
			}
			return true
		}
		from("")
	}
}

// signOf is a byte's sign in a symbol's text, as the document has it.
func signOf(c byte) string {
	switch {
	case c == '"':
		return "\\\""
	case c == '\\':
		return "\\\\"
	case c == 0x0a:
		return "\\n"
	case c < 0x20 || c > 0x7e:
		return fmt.Sprintf("\\x%02x", c)
	}
	return string(rune(c))
}

// P1.2
func TestSymbolsHaveTheirTexts(t *testing.T) {
	for _, c := range []struct{ s, quoted string }{
		{"", `""`}, {"a", `"a"`}, {"a b~!", `"a b~!"`}, {"a\n", `"a\n"`}, {"a\n\"\x07", `"a\n\"\x07"`},
		{`\`, `"\\"`}, {`"`, `"\""`}, {`\n`, `"\\n"`}, {`\x07`, `"\\x07"`}, {`\"`, `"\\\""`}, {"''`//", "\"''`//\""},
		{"\t\r\v\f\a\b\x00", `"\x09\x0d\x0b\x0c\x07\x08\x00"`}, {"\x1f \x7e\x7f\x80\xff", `"\x1f ~\x7f\x80\xff"`},
		{"\u00e4", `"\xc3\xa4"`}, {"\u20ac1", `"\xe2\x82\xac1"`}, {"\U0001f600", `"\xf0\x9f\x98\x80"`}, {"\ufffd", `"\xef\xbf\xbd"`},
		{"\xc3", `"\xc3"`}, {"\xa4\xc3a", `"\xa4\xc3a"`}, {"\xab\xcd\xef", `"\xab\xcd\xef"`},
	} {
		if q := text.Quote(c.s); q != c.quoted {
			t.Errorf("Quote(%q) = %s", c.s, q)
		}
		if s, e := text.Unquote(c.quoted); s != c.s || e != api.OK {
			t.Errorf("Unquote(%s) = %q, %d", c.quoted, s, e)
		}
	}
}

// P1.2
func TestEachByteHasItsSign(t *testing.T) {
	for i := range 256 {
		c := byte(i)
		s, quoted := string([]byte{c}), `"`+signOf(c)+`"`
		if q := text.Quote(s); q != quoted {
			t.Errorf("Quote(%q) = %s", s, q)
		}
		if u, e := text.Unquote(quoted); u != s || e != api.OK {
			t.Errorf("Unquote(%s) = %q, %d", quoted, u, e)
		}
	}
}

// P1.2, R2
func TestWhatIsNoSymbolIsRefused(t *testing.T) {
	for _, s := range []string{
		``, `"`, `a`, `ab`, `"a`, `a"`, `'a'`, "`a`", `""a`, `a""`, ` ""`, `"" `, `"""`, `""""`, `"a"b"`, `"a""b"`,
		`"\"`, `"\\\"`, `"a\"`, `"\`, `\"a\"`, `"\a"`, `"\t"`, `"\r"`, `"\N"`, `"\'"`, `"\0"`, `"\ "`, `"\u0041"`, `"\101"`, `"\X07"`,
		`"\x"`, `"\x0"`, `"\x0g"`, `"\xg0"`, `"\x/0"`, `"\x0/"`, `"\x:0"`, "\"\\x`0\"", `"\x 7"`, `"\x-7"`, `"\x+7"`, `"\x7"`, `"\x7`,
		`"\xAB"`, `"\xaB"`, `"\xAb"`, `"\xFF"`, `"\x1F"`, `"\x0A"`, `"\x0a"`, `"\x20"`, `"\x22"`, `"\x41"`, `"\x5c"`, `"\x61"`, `"\x7e"`,
		"\"\n\"", "\"\t\"", "\"\r\"", "\"\x00\"", "\"\x1f\"", "\"\x7f\"", "\"\x80\"", "\"\xff\"", "\"\u00e4\"", "\"a\nb\"", "\"a\"\n", "\n\"a\"",
	} {
		if u, e := text.Unquote(s); u != "" || e != api.ErrText {
			t.Errorf("Unquote(%q) = %q, %d", s, u, e)
		}
	}
	for i := range 256 {
		c := byte(i)
		for _, form := range []string{`"\x%02x"`, `"ab\x%02xcd"`} {
			_, e := text.Unquote(fmt.Sprintf(form, c))
			if (e == api.OK) != (len(signOf(c)) == 4) {
				t.Errorf("%02x of %s: %d", c, form, e)
			}
		}
		_, e := text.Unquote("\"" + string([]byte{c}) + "\"")
		if (e == api.OK) != (len(signOf(c)) == 1) {
			t.Errorf("%02x as itself: %d", c, e)
		}
	}
}

// P1.3
func TestSymbolsAreReadFromTheirTexts(t *testing.T) {
	check := func(s, want string) {
		q := text.Quote(s)
		if u, e := text.Unquote(q); q != want || u != s || e != api.OK {
			t.Fatalf("%q becomes %s, which becomes %q, %d", s, q, u, e)
		}
	}
	for i := range 256 {
		for k := range 256 {
			check(string([]byte{byte(i), byte(k)}), `"`+signOf(byte(i))+signOf(byte(k))+`"`)
		}
	}
	long := strings.Repeat("\x00\\\"\n a\u20ac\xff", 20000)
	check(long, `"`+strings.Repeat(`\x00\\\"\n a\xe2\x82\xac\xff`, 20000)+`"`)
}

// P1.3
func TestSymbolsAreReadFromNoOtherTexts(t *testing.T) {
	for s := range textsOf("\"\\x0anf8", 6) {
		checkSymbol(t, s)
		checkSymbol(t, `"`+s+`"`)
	}
}

func checkSymbol(t *testing.T, s string) {
	u, e := text.Unquote(s)
	switch {
	case symbolForm.MatchString(s) && (e != api.OK || text.Quote(u) != s):
		t.Fatalf("Unquote(%s) = %q, %d", s, u, e)
	case !symbolForm.MatchString(s) && (e != api.ErrText || u != ""):
		t.Fatalf("Unquote(%s) = %q, %d", s, u, e)
	}
}
