package dlex_test

import (
	"iter"
	"math/big"
	"regexp"
	"slices"
	"strings"
	"testing"

	"sorites/api"
	"sorites/dlex"
	"sorites/text"
)

// What the document calls a gap, and the tokens by their kinds, written down
// anew; behind a number stands what spoils it.
var (
	gapForm    = regexp.MustCompile(`^(?:[\t\n ]|//[^\n]*)*`)
	identForm  = regexp.MustCompile(`^[a-zA-Z_][a-zA-Z0-9_]*`)
	numForm    = regexp.MustCompile(`^[0-9]+`)
	textForm   = regexp.MustCompile(`^"(?:[ !#-\[\]-~]|\\["\\n]|\\x(?:0[0-9b-f]|1[0-9a-f]|7f|[89a-f][0-9a-f]))*"`)
	wordForm   = regexp.MustCompile(`^\.[a-z]+`)
	signForm   = regexp.MustCompile(`^(?::-|!=|<=|>=|[(){},.:!=<>+*-])`)
	spoilsForm = regexp.MustCompile(`^[a-zA-Z0-9_]`)
)

// wanted is what Lex is to answer, by the forms above.
func wanted(s string) ([]api.Tok, int, api.Errno) {
	if len(s) > 65536 {
		return nil, 0, api.ErrLong
	}
	var l []api.Tok
	for at := 0; ; {
		at += len(gapForm.FindString(s[at:]))
		line := 1 + strings.Count(s[:at], "\n")
		if at == len(s) {
			return l, 0, api.OK
		}
		kind, form := wantedForm(s[at:])
		switch {
		case kind == 0:
			return nil, line, api.ErrLex
		case len(l) == 20000:
			return nil, line, api.ErrLong
		}
		at += len(form)
		if kind == api.DText {
			form, _ = text.Unquote(form)
		}
		l = append(l, api.Tok{Kind: kind, S: form, Line: line})
	}
}

// wantedForm is the token that stands at a text's beginning, or the kind 0.
func wantedForm(s string) (int, string) {
	if f := identForm.FindString(s); f != "" && len(f) <= 40 {
		return api.DIdent, f
	} else if f != "" {
		return 0, ""
	}
	if f := numForm.FindString(s); f != "" {
		n, _ := new(big.Int).SetString(f, 10)
		if f != "0" && f[0] == '0' || !n.IsInt64() || spoilsForm.MatchString(s[len(f):]) {
			return 0, ""
		}
		return api.DNum, f
	}
	if f := textForm.FindString(s); f != "" {
		return api.DText, f
	}
	if f := wordForm.FindString(s); f != "" {
		if f != ".decl" && f != ".input" && f != ".output" {
			return 0, ""
		}
		return api.DWord, f
	}
	if f := signForm.FindString(s); f != "" {
		return api.DSign, f
	}
	return 0, ""
}

// textsOf goes through all texts of some pieces, up to a count of them.
func textsOf(pieces []string, longest int) iter.Seq[string] {
	return func(yield func(string) bool) {
		var from func(s string, left int) bool
		from = func(s string, left int) bool {
			if !yield(s) {
				return false
			}
			for _, p := range pieces {
				if left > 0 && !from(s+p, left-1) {
					return false
				}
			}
			return true
		}
		from("", longest)
	}
}

func checkLex(t *testing.T, s string) {
	t.Helper()
	l, line, e := dlex.Lex(s)
	wl, wline, we := wanted(s)
	if !slices.Equal(l, wl) || line != wline || e != we {
		t.Fatalf("Lex(%.80q) = %.20v, %d, %d, not %.20v, %d, %d", s, l, line, e, wl, wline, we)
	}
}

// P2.1
func TestShortTextsOfSigns(t *testing.T) {
	for s := range textsOf(strings.Split("(){},.:-!=<>+*/ ", ""), 4) {
		checkLex(t, s)
	}
}

// P2.1
func TestShortTextsOfNamesNumbersAndWords(t *testing.T) {
	for s := range textsOf([]string{"a", "Z", "_", "0", "7", ".", "decl", "-", "\n", "\"", "/"}, 5) {
		checkLex(t, s)
	}
}

// P2.1
func TestShortTextsOfSymbolsAndLines(t *testing.T) {
	for s := range textsOf([]string{"\"", "\\", "x0a", "x07", "n", "\n", "//", ".input"}, 6) {
		checkLex(t, s)
	}
}

// P2.1
func TestBytesByPairs(t *testing.T) {
	for i := range 256 {
		for k := range 256 {
			pair := string([]byte{byte(i), byte(k)})
			for _, ahead := range []string{"", "b", "7", ".d", "\"", "\"\\", "\"\\x", "//", ":", "\n"} {
				checkLex(t, ahead+pair)
			}
			checkLex(t, "\""+pair+"\" c")
			checkLex(t, "\"\\"+pair+"\"")
			checkLex(t, "// "+pair+"\nc")
		}
	}
}
