package text

import (
	"iter"
	"strings"
)

const hexDigits = "0123456789abcdef"

// eachByte yields bytes where a range over the string would yield runes: a
// symbol may hold bytes that are no UTF-8.
func eachByte(s string) iter.Seq[byte] {
	return func(yield func(byte) bool) {
		for i := range len(s) {
			if !yield(s[i]) {
				return
			}
		}
	}
}

// eachSign yields the byte that each sign of a symbol's text says, up to the
// first one that is wrong.
func eachSign(inner string) iter.Seq2[byte, error] {
	return func(yield func(byte, error) bool) {
		for i := 0; i < len(inner); {
			c, size, err := firstSign(inner[i:])
			if !yield(c, err) || err != nil {
				return
			}
			i += size
		}
	}
}

func writeSign(b *strings.Builder, c byte) {
	switch {
	case c == '\n':
		c = 'n'
		fallthrough
	case c == '"', c == '\\':
		b.WriteByte('\\')
		fallthrough
	case isPlain(c):
		b.WriteByte(c)
	default:
		b.WriteString(`\x`)
		b.WriteByte(hexDigits[c>>4])
		b.WriteByte(hexDigits[c&15])
	}
}

func betweenQuotes(s string) (string, error) {
	behind, opened := strings.CutPrefix(s, `"`)
	inner, closed := strings.CutSuffix(behind, `"`)
	if !opened || !closed {
		return "", errForm
	}
	return inner, nil
}

// firstSign is the byte that the sign at the text's beginning says, and how
// many bytes the sign has.
func firstSign(s string) (byte, int, error) {
	c := s[0]
	switch {
	case c == '\\':
		return firstEscape(s)
	case c == '"', !isPlain(c):
		return 0, 0, errForm
	}
	return c, 1, nil
}

func firstEscape(s string) (byte, int, error) {
	if len(s) < 2 {
		return 0, 0, errForm
	}
	switch c := s[1]; c {
	case 'n':
		c = '\n'
		fallthrough
	case '"', '\\':
		return c, 2, nil
	case 'x':
		return firstHex(s)
	}
	return 0, 0, errForm
}

// firstHex refuses the bytes that have a shorter sign, lest a symbol have two
// texts.
func firstHex(s string) (byte, int, error) {
	if len(s) < 4 {
		return 0, 0, errForm
	}
	high := strings.IndexByte(hexDigits, s[2])
	low := strings.IndexByte(hexDigits, s[3])
	if high < 0 || low < 0 {
		return 0, 0, errForm
	}
	c := byte(high<<4 | low)
	if isPlain(c) || c == '\n' {
		return 0, 0, errForm
	}
	return c, 4, nil
}

func isPlain(c byte) bool { return c >= 0x20 && c <= 0x7e }
