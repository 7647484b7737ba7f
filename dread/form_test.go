package dread_test

import (
	"math/rand"
	"slices"
	"strings"
	"testing"

	"sorites/api"
	"sorites/dread"
)

// What the document calls a program, written down anew as a grammar: a line
// says what a word can be, one of several things parted by ` | `. Words that
// have no line are tokens. (Relations ahead, heads, limits, and signs next to
// symbols are no matter of it.)
const grammar = `
program = thing | program thing
thing = .decl NAME ( columns ) | .input NAME | .output NAME | atom . | atom :- parts .
columns = column | columns , column
column = NAME : number | NAME : symbol
parts = part | parts , part
part = atom | ! atom | expression sign expression | plain = count : { atom } | plain = sum NAME : { atom } | plain = min NAME : { atom } | plain = max NAME : { atom }
sign = = | != | < | <= | > | >=
plain = NAME | NUMBER | - NUMBER | ( plain )
atom = NAME ( arguments )
arguments = argument | arguments , argument
argument = _ | expression
expression = product | expression + product | expression - product
product = factor | product * factor
factor = NUMBER | - NUMBER | TEXT | NAME | ( expression )
`

func readGrammar() map[string][][]string {
	g := map[string][][]string{}
	for _, line := range strings.Split(strings.TrimSpace(grammar), "\n") {
		word, forms, _ := strings.Cut(line, " = ")
		for _, form := range strings.Split(forms, " | ") {
			g[word] = append(g[word], strings.Fields(form))
		}
	}
	return g
}

var forms = readGrammar()

func isToken(word string, t api.Tok) bool {
	switch word {
	case "NAME":
		return t.Kind == api.DIdent && t.S != "_"
	case "NUMBER":
		return t.Kind == api.DNum
	case "TEXT":
		return t.Kind == api.DText
	}
	return t.S == word && t.Kind != api.DText && t.Kind != api.DNum
}

// state is how far into a form the tokens go that stand from a place on; a
// chart has those of each place (Earley's way).
type state struct {
	word          string
	form, at, old int
}

type chart [][]state

func (s state) next() string {
	if f := forms[s.word][s.form]; s.at < len(f) {
		return f[s.at]
	}
	return ""
}

func begin() chart {
	c := chart{nil}
	return c.filled([]state{{word: "program", form: 0}, {word: "program", form: 1}})
}

// filled puts states at the last place, and all that follow from them.
func (c chart) filled(l []state) chart {
	last := len(c) - 1
	seen := map[state]bool{}
	for len(l) > 0 {
		s := l[0]
		l = l[1:]
		if seen[s] {
			continue
		}
		seen[s] = true
		c[last] = append(c[last], s)
		if next := s.next(); next != "" {
			for i := range forms[next] {
				l = append(l, state{next, i, 0, last})
			}
			continue
		}
		for _, waits := range c[s.old] {
			if waits.next() == s.word {
				waits.at++
				l = append(l, waits)
			}
		}
	}
	return c
}

// with is the chart with one more token; nothing, if no program can go on so.
func (c chart) with(t api.Tok) chart {
	var l []state
	for _, s := range c[len(c)-1] {
		if next := s.next(); next != "" && forms[next] == nil && isToken(next, t) {
			s.at++
			l = append(l, s)
		}
	}
	if l == nil {
		return nil
	}
	return append(slices.Clone(c), nil).filled(l)
}

func (c chart) isWhole() bool {
	return len(c) == 1 || slices.ContainsFunc(c[len(c)-1], func(s state) bool {
		return s.word == "program" && s.old == 0 && s.next() == ""
	})
}

func isSign(t api.Tok, s string) bool { return t.Kind == api.DSign && t.S == s }

// cannotMark tells whether the last one of tokens that are a program so far
// is a .input or .output without a relation that it could mark, or no name of
// such a one.
func cannotMark(l []api.Tok) bool {
	var rels []string
	marked := map[string]bool{}
	word := ""
	for i, t := range l {
		switch {
		case t.Kind == api.DWord && t.S == ".decl" && i+1 < len(l):
			rels = append(rels, l[i+1].S)
		case t.Kind == api.DWord && t.S != ".decl":
			word = t.S
			left := slices.ContainsFunc(rels, func(r string) bool { return !marked[word+r] })
			if i == len(l)-1 && !left {
				return true
			}
		case word != "":
			if i == len(l)-1 && (!slices.Contains(rels, t.S) || marked[word+t.S]) {
				return true
			}
			marked[word+t.S], word = true, ""
		}
	}
	return false
}

// wrongHead is the place of a head that may not be so, if that is seen with
// the last one of tokens that are a program so far.
func wrongHead(l []api.Tok) (int, bool) {
	first, high, ended := 0, 0, -1
	for i, t := range l {
		switch {
		case t.Kind == api.DWord && t.S == ".decl":
			for first = i; first < len(l) && !isSign(l[first], ")"); first++ {
			}
			if first >= len(l) {
				return 0, false
			}
			first, ended = first+1, -1
		case i < first:
		case t.Kind == api.DWord:
			first, ended = i+2, -1
		case isSign(t, "."):
			if i == len(l)-1 && ended == i-1 && hasName(l[first+1:i]) {
				return first, true
			}
			first, ended = i+1, -1
		case ended >= 0:
		case isSign(t, "("):
			high++
		case isSign(t, ")"):
			high--
			if high == 0 {
				ended = i
				if i == len(l)-1 && hasMoreThanPlain(l[first+1:i]) {
					return first, true
				}
			}
		}
	}
	return 0, false
}

func hasName(l []api.Tok) bool {
	return slices.ContainsFunc(l, func(t api.Tok) bool { return t.Kind == api.DIdent })
}

// hasMoreThanPlain tells whether arguments have a `_` or a sign between two
// things: a `-` behind a bracket that opens, or a comma, is a number's.
func hasMoreThanPlain(l []api.Tok) bool {
	for i, t := range l {
		switch {
		case isSign(t, "+"), isSign(t, "*"), t.Kind == api.DIdent && t.S == "_":
			return true
		case isSign(t, "-") && !isSign(l[i-1], "(") && !isSign(l[i-1], ","):
			return true
		}
	}
	return false
}

// wanted is what Parse is to answer beside a program. Nothing is known (false)
// of a program with symbols next to signs.
func wanted(l []api.Tok) (int, api.Errno, bool) {
	c := begin()
	for i, t := range l {
		if c = c.with(t); c == nil || cannotMark(l[:i+1]) {
			return t.Line, api.ErrParse, true
		}
		if first, wrong := wrongHead(l[:i+1]); wrong {
			return l[first].Line, api.ErrParse, true
		}
		if t.Kind == api.DText && (i > 0 && isBetween(l[i-1]) || i+1 < len(l) && isBetween(l[i+1])) {
			return 0, 0, false
		}
	}
	if c.isWhole() {
		return 0, api.OK, true
	}
	return 0, api.ErrParse, true
}

func isBetween(t api.Tok) bool { return t.Kind == api.DSign && strings.Contains("+-*()", t.S) }

func textOf(l []api.Tok) string {
	var b strings.Builder
	for _, t := range l {
		b.WriteString(t.S + " ")
	}
	return b.String()
}

// walk goes through all tokens that programs can begin with, so many behind
// those given, and tries each other token behind them, too.
func walk(t *testing.T, l []api.Tok, c chart, words []api.Tok, left int) int {
	count := 1
	check(t, l, 0, map[bool]api.Errno{true: api.OK, false: api.ErrParse}[c.isWhole()])
	for i, w := range words {
		w.Line = len(l) + 1
		longer := append(slices.Clone(l), w)
		next := c.with(w)
		first, wrong := 0, false
		if next != nil {
			first, wrong = wrongHead(longer)
		}
		if next == nil || cannotMark(longer) {
			first, wrong = len(longer)-1, true
		}
		if !wrong && left > 0 {
			count += walk(t, longer, next, words, left-1)
		} else if wrong {
			check(t, longer, longer[first].Line, api.ErrParse)
			check(t, append(longer, words[(i+count)%len(words)]), longer[first].Line, api.ErrParse)
		}
	}
	return count
}

func check(t *testing.T, l []api.Tok, line int, e api.Errno) {
	t.Helper()
	p, gotLine, got := dread.Parse(l)
	if gotLine != line || got != e || e != api.OK && !isNothing(p) {
		t.Fatalf("%s: %d, %d, not %d, %d", textOf(l), gotLine, got, line, e)
	}
}

func walkFrom(t *testing.T, ahead, words string, left, least int) {
	t.Helper()
	c := begin()
	l := eachOnALine(lexed(t, ahead))
	for _, tok := range l {
		c = c.with(tok)
	}
	if count := walk(t, l, c, lexed(t, words), left); count < least {
		t.Errorf("behind %q: %d", ahead, count)
	}
}

// P4.1
func TestAllBodiesOfFewTokens(t *testing.T) {
	unsigned := "x sum count _ 1 ( ) { } , . : :- ! = >= "
	words := unsigned + "+ - * .input"
	walkFrom(t, "p(1) :-", words, 5, 1000)
	walkFrom(t, "p(1) :- x =", words, 5, 1000)
	walkFrom(t, "p(1) :- q(x), (x) = sum", words, 5, 1000)
	walkFrom(t, "p(1) :- x + 1 =", words, 4, 200)
	walkFrom(t, "p(1) :- x < ", words, 4, 200)
	walkFrom(t, "p(1) :- n = count : {", words, 6, 1000)
	walkFrom(t, "p(1) :- !", words, 6, 1000)
	walkFrom(t, "p(1) :- \"a\"", unsigned, 5, 100)
	walkFrom(t, "p(1) :- \"a\" =", unsigned, 4, 100)
}

// P4.1
func TestAllHeadsOfFewTokens(t *testing.T) {
	words := "p x 1 _ ( ) + - , . :- = .output"
	walkFrom(t, "", words, 7, 1000)
	walkFrom(t, "p(x) :- q(x). p(", words, 5, 1000)
	walkFrom(t, "p(1). p(x", words, 5, 1000)
	walkFrom(t, "p(\"a\", (", words, 5, 500)
}

// P4.1
func TestAllRelationsOfFewTokens(t *testing.T) {
	words := ".decl .input .output p q _ ( ) : , number 1 ."
	walkFrom(t, "", words, 8, 200)
	walkFrom(t, ".decl p(a: number)", words, 7, 1000)
	walkFrom(t, ".decl p(a: number) .decl q(a: number) .input q", words, 7, 1000)
	walkFrom(t, ".decl p(a: number) .decl p(a: number) .decl q(a: symbol) .output p", words, 7, 1000)
}

// P4.1, P4.2
func TestProgramsWithATokenOrTwoChanged(t *testing.T) {
	rng := rand.New(rand.NewSource(4))
	others := lexed(t, "x sum count min _ number 1 ( ) { } , . : :- ! = > <= + - * .input .decl .output q")
	known, right := 0, 0
	for range 4000 {
		l := lexed(t, textOfProg(t, fewThings(rng)))
		for range rng.Intn(3) {
			i, other := rng.Intn(len(l)+1), others[rng.Intn(len(others))]
			switch k := min(i+1, len(l)); rng.Intn(4) {
			case 0:
				l = slices.Insert(l, i, other)
			case 1:
				l = slices.Replace(l, i, k, other)
			case 2:
				l = slices.Delete(l, i, k)
			default:
				l = slices.Insert(l, i, l[rng.Intn(len(l))])
			}
		}
		l = eachOnALine(l)
		line, e, isKnown := wanted(l)
		if !isKnown {
			continue
		}
		known++
		if e == api.OK {
			right++
		}
		check(t, l, line, e)
	}
	if known < 1500 || right < 200 || known-right < 1000 {
		t.Errorf("%d known, %d right", known, right)
	}
}
