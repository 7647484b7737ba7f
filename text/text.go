// Package text is layer 1: see shared/doc/01-text.md.
package text

import (
	"errors"
	"strconv"
	"strings"

	"sorites/api"
)

// errForm is all that can be wrong here: a text that is no form.
var errForm = errors.New("text: no such form")

// Num and ParseNum are numbers as texts.
func Num(n int64) string { return strconv.FormatInt(n, 10) }

func ParseNum(s string) (int64, api.Errno) {
	n, err := number(s)
	if errors.Is(err, errForm) {
		return 0, api.ErrText
	}
	return n, api.OK
}

// Quote and Unquote are symbols as texts.
func Quote(s string) string {
	var b strings.Builder
	b.Grow(len(s) + 2)
	b.WriteByte('"')
	for c := range eachByte(s) {
		writeSign(&b, c)
	}
	b.WriteByte('"')
	return b.String()
}

func Unquote(s string) (string, api.Errno) {
	inner, wrong := betweenQuotes(s)
	var b strings.Builder
signs:
	for c, err := range eachSign(inner) {
		switch {
		case err != nil:
			wrong = err
			break signs
		default:
			b.WriteByte(c)
		}
	}
	if errors.Is(wrong, errForm) {
		return "", api.ErrText
	}
	return b.String(), api.OK
}

// IsName tells whether a text is a name.
func IsName(s string) bool {
	if s == "" || s == "_" || len(s) > api.MaxName {
		return false
	}
	for i, r := range s {
		if !isLetter(r) && (i == 0 || !isDigit(r)) {
			return false
		}
	}
	return true
}

func isLetter(r rune) bool {
	return r >= 'a' && r <= 'z' || r >= 'A' && r <= 'Z' || r == '_'
}

func isDigit(r rune) bool { return r >= '0' && r <= '9' }
