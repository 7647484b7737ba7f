package dlex

import (
	"iter"
	"strings"

	"sorites/api"
	"sorites/text"
)

const shortSigns = "(){},.:!=<>+-*"

// eachToken yields a text's tokens, up to the first thing that is none. Line
// ends are counted between tokens alone, since no token has one within.
func eachToken(s string) iter.Seq2[api.Tok, error] {
	return func(yield func(api.Tok, error) bool) {
		rest, line := s, 1
		for {
			gap := gapSize(rest)
			line += strings.Count(rest[:gap], "\n")
			rest = rest[gap:]
			if rest == "" {
				return
			}
			kind, size := shape(rest)
			said, err := meaning(kind, rest[:size])
			if err != nil {
				yield(api.Tok{}, lineError{line, err})
				return
			}
			if !yield(api.Tok{Kind: kind, S: said, Line: line}, nil) {
				return
			}
			rest = rest[size:]
		}
	}
}

// gapSize is how many bytes of blanks and comments stand ahead.
func gapSize(s string) int {
	i := 0
	for i < len(s) {
		switch {
		case isBlank(s[i]):
			i++
		case strings.HasPrefix(s[i:], "//"):
			i += commentSize(s[i:])
		default:
			return i
		}
	}
	return i
}

func commentSize(s string) int {
	if end := strings.IndexByte(s, '\n'); end >= 0 {
		return end
	}
	return len(s)
}

// shape is the kind that a text's first bytes can be of, and how many bytes
// that would have. A number takes in the letters behind it, which spoil it.
func shape(s string) (kind, size int) {
	switch c := s[0]; {
	case isDigit(c):
		return api.DNum, runSize(s, isPartOfName)
	case isPartOfName(c):
		return api.DIdent, runSize(s, isPartOfName)
	case c == '"':
		return api.DText, symbolSize(s)
	case c == '.' && runSize(s[1:], isSmall) > 0:
		return api.DWord, 1 + runSize(s[1:], isSmall)
	}
	return api.DSign, signSize(s)
}

// meaning is what a token of that kind and those bytes says. It is copied,
// lest a token keep the whole text that was handed in.
func meaning(kind int, bytes string) (string, error) {
	right := false
	switch kind {
	case api.DText:
		return symbol(bytes)
	case api.DIdent:
		right = bytes == "_" || text.IsName(bytes)
	case api.DNum:
		_, e := text.ParseNum(bytes)
		right = e == api.OK
	case api.DWord:
		right = bytes == ".decl" || bytes == ".input" || bytes == ".output"
	case api.DSign:
		right = isSign(bytes)
	}
	if !right {
		return "", errNone
	}
	return strings.Clone(bytes), nil
}

func symbol(bytes string) (string, error) {
	s, e := text.Unquote(bytes)
	if e != api.OK {
		return "", errNone
	}
	return s, nil
}

// symbolSize goes to the first quote that no \ takes its sense from, if need
// be behind the line's end: no symbol's text has a line end within.
func symbolSize(s string) int {
	escaped := false
	for i := 1; i < len(s); i++ {
		switch {
		case escaped:
			escaped = false
		case s[i] == '\\':
			escaped = true
		case s[i] == '"':
			return i + 1
		}
	}
	return len(s)
}

func signSize(s string) int {
	if len(s) > 1 && isLongSign(s[:2]) {
		return 2
	}
	return 1
}

func isSign(s string) bool {
	return isLongSign(s) || strings.IndexByte(shortSigns, s[0]) >= 0
}

func isLongSign(s string) bool {
	return s == ":-" || s == "!=" || s == "<=" || s == ">="
}

func runSize(s string, belongs func(byte) bool) int {
	i := 0
	for i < len(s) && belongs(s[i]) {
		i++
	}
	return i
}

func isBlank(c byte) bool { return c == '\t' || c == '\n' || c == ' ' }

func isDigit(c byte) bool { return c >= '0' && c <= '9' }

func isSmall(c byte) bool { return c >= 'a' && c <= 'z' }

func isPartOfName(c byte) bool {
	return isSmall(c) || c >= 'A' && c <= 'Z' || c == '_' || isDigit(c)
}
