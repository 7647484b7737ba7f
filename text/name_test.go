package text_test

import (
	"regexp"
	"strings"
	"testing"

	"sorites/text"
)

// nameForm is what the document calls a name, but for `_` alone.
var nameForm = regexp.MustCompile(`^[a-zA-Z_][a-zA-Z0-9_]{0,39}$`)

// P1.2
func TestNames(t *testing.T) {
	for s, want := range map[string]bool{
		"a": true, "z": true, "A": true, "Z": true, "_a": true, "_1": true, "__": true, "a_": true, "x9": true, "A_b0": true,
		"": false, "_": false, "1": false, "1a": false, "9_": false, "a-": false, "a b": false, " a": false, "a ": false,
		"a\n": false, "a\x00": false, "\x00": false, "a.b": false, "\u00e4": false, "a\u00e4": false, "\u0430": false,
		"a\u0661": false, "\xff": false, "a\xff": false, "_\xff": false, "a\u0301": false, "decl": true, "func": true,
	} {
		if text.IsName(s) != want {
			t.Errorf("IsName(%q) = %v", s, !want)
		}
	}
}

// P1.2
func TestNamesHaveAtMostFortyBytes(t *testing.T) {
	for n := range 100 {
		for _, sign := range []string{"a", "Z", "_", "\u00e4"} {
			want := sign != "\u00e4" && (n >= 2 || n == 1 && sign != "_") && n <= 40
			if got := text.IsName(strings.Repeat(sign, n)); got != want {
				t.Errorf("IsName of %d %q = %v", n, sign, got)
			}
		}
	}
	if !text.IsName("a"+strings.Repeat("0", 39)) || text.IsName("a"+strings.Repeat("0", 40)) {
		t.Error("a letter and digits")
	}
	if text.IsName(strings.Repeat("a", 39)+"\u00e4") || text.IsName(strings.Repeat("a", 1<<20)) {
		t.Error("too many bytes")
	}
}

// P1.2
func TestNamesByTheirBytes(t *testing.T) {
	for i := range 256 {
		checkName(t, string([]byte{byte(i)}))
		for k := range 256 {
			checkName(t, string([]byte{byte(i), byte(k)}))
			checkName(t, string([]byte{'b', byte(i), byte(k)}))
		}
	}
}

func checkName(t *testing.T, s string) {
	if want := nameForm.MatchString(s) && s != "_"; text.IsName(s) != want {
		t.Errorf("IsName(%q) = %v", s, !want)
	}
}
