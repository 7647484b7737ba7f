package dread_test

import (
	"strings"
	"testing"

	"sorites/api"
	"sorites/dread"
)

// P4.1
func TestTheTokenWithWhichNoProgramCanGoOn(t *testing.T) {
	for _, s := range []string{
		"p", "p(", "p(1", "p(1)", "p(1,", "p(x", "p(x)", "p(x) :-", "p(1) :- q", "p(1) :- q(", "p(1) :- q(1)", "p(1) :- q(1),", "p(1) :- !", "p(1) :- !q",
		"p(1) :- x", "p(1) :- x =", "p(1) :- x = y", "p(1) :- x = y +", "p(1) :- x = -", "p(1) :- x = (", "p(1) :- x = (y", "p(1) :- x = (y)", "p(1) :- x <",
		"p(1) :- x = count", "p(1) :- x = count :", "p(1) :- x = count : {", "p(1) :- x = count : { q", "p(1) :- x = count : { q(1)", "p(1) :- x = count : { q(1) }",
		"p(1) :- x = sum", "p(1) :- x = sum y", "p(1) :- x = min y :", "p(1) :- x = max y : {", "p(1) :- \"a\"", "p(1) :- \"a\" +", "p(1) :- _p", "p(_", "p(_,", "p(x +", "p(\"a\" *",
		".decl", ".decl p", ".decl p(", ".decl p(a", ".decl p(a:", ".decl p(a: number", ".decl p(a: number,", ".decl p(a: number) .input", ".decl p(a: number) .output",

		"@( 1", "@)", "@.", "@,", "@:-", "@!p(1).", "@1", "@\"p\"(1).", "@_", "@_(1).", "@= p(1).", "x", "p @x", "p @.", "p @:- q(1).", "p(1) @p(2).", "p(1). @.", "p(1). @:- q(1).",
		"p(@).", "p(@,1).", "p(1,@).", "p(1 @1).", "p(1 @x).", "p(x @1).", "p(1 @:- 1).", "p(1 @! 1).", "p(1 @. 1).", "p(1 @= 1).", "p(@!1).", "p(@= 1).", "p(q@(1)).", "p(_@_).", "p(_ @+ 1).", "p(1 + @_).", "p((@_)).", "p(-@x).", "p(-@(1)).", "p(-@-1).", "p(-@\"a\").", "p(-@_).",
		"p(1 + @+ 1).", "p(1 * @+ 1).", "p(1 + @* 1).", "p(@* 1).", "p(@+ 1).", "p(1 + @).", "p((1@,2)).", "p((@)).", "p(1@}).", "p@{1}.", "p(@.decl).", "p(@:).",
		"p(1)@, q(1).", "p(1) @= 1.", "p(1) @!q(1).", "p(1) @{", "p(1) @.decl q(a: number)", "p(1) :- @.", "p(1) :- @, q(1).", "p(1) :- q(1) @q(2).", "p(1) :- q(1), @.", "p(1) :- q(1),@, q(1).", "p(1) :- q(1) @:- q(1).", "p(1) :- @:- q(1).", "p(1) :- q(1) @= 1.", "p(1) :- q(1) @+ 1 = 2.",
		"p(1) :- q@.", "p(1) :- q@, r(1).", "p(1) :- 1@.", "p(1) :- \"a\"@.", "p(1) :- 1@(2).", "p(1) :- @_ = 1.", "p(1) :- @_.", "p(1) :- x = @_.", "p(1) :- !@!q(1).", "p(1) :- !@(q(1)).", "p(1) :- !@1 = 1.", "p(1) :- !x @= 1.", "p(1) :- !@_(1).", "p(1) :- (q@(1)).", "p(1) :- x = q@(1).", "p(1) :- x = y @= z.", "p(1) :- x < y @< z.", "p(1) :- x = @= y.", "p(1) :- x = @.", "p(1) :- x = @!q(1).", "p(1) :- @= x.", "p(1) :- @< x.", "p(1) :- x @: y.", "p(1) :- x @y.", "p(1) :- (x @= y).", "p(1) :- x + 1 @.", "p(1) :- x > @> y.", "p(1) :- x @! = y.",
		"p(1) :- x @\"=\" y.", "p(1) :- x = \"count\" @: { q(1) }.", "p(1) :- x = \"sum\" @y : { q(1) }.", "p(1) :- \"!\" @q(1).", "p(1) :- \"q\" @(1).", "p(1 @\")\".", "p(1 @\",\" 2).", "p(1) @\":-\" q(1).", "p(1) @\".\"", "@\".decl\" p(a: number)", "p(1 @\"+\" 1).", "p(\"-\" @1).",

		".decl @(a: number)", ".decl @1(a: number)", ".decl @\"p\"(a: number)", ".decl @_(a: number)", ".decl @.decl", ".decl p @a", ".decl p(@)", ".decl p(@1: number)", ".decl p(@_: number)", ".decl p(@\"a\": number)", ".decl p(a @number)", ".decl p(a @:- number)", ".decl p(a: @foo)", ".decl p(a: @Number)", ".decl p(a: @_)", ".decl p(a: @\"number\")", ".decl p(a: @1)", ".decl p(a: @)", ".decl p(a: number @b: number)", ".decl p(a: number, @)", ".decl p(a: number,@, b: symbol)", ".decl p(a: number@.", ".decl p(a: number) @.", ".decl p(a: number) @:- q(1).",
	} {
		checkWrong(t, s, api.ErrParse)
	}
}

// P4.1
func TestAggregatesThatCannotBe(t *testing.T) {
	for _, s := range []string{
		"x + 1 = count @: { q(1) }", "\"a\" = count @: { q(1) }", "(\"a\") = count @: { q(1) }", "x < count @: { q(1) }", "x != count @: { q(1) }", "x >= count @: { q(1) }", "x = (count @: { q(1) })", "x = 1 + count @: { q(1) }", "x = (count) @: { q(1) }", "(x + 1) = count @: { q(1) }", "count @: { q(1) } = x",
		"x + 1 = sum @y : { q(y) }", "\"a\" = min @y : { q(y) }", "x <= max @y : { q(y) }", "x > sum @y : { q(y) }", "x = (sum @y)", "x = y + sum @y : { q(y) }", "2 * x = max @y", "sum @y : { q(y) } = x",
		"x = count @y : { q(y) }", "x = count @count : { q(y) }", "x = sum @: { q(1) }", "x = min @1 : { q(1) }", "x = max @_ : { q(1) }", "x = sum @\"y\" : { q(1) }", "x = sum @(y) : { q(1) }", "x = min @1", "x = min * @: { q(1) }",
		"x = sum y@, q(y)", "x = sum y@", "x = min y @{ q(y) }", "x = max y @+ 1", "x = sum y @z", "x = sum sum @sum", "x = sum count@, q(1)", "x = sum y @:- { q(y) }",
		"x = count : @q(1)", "x = count : @: { q(1) }", "x = count : @x", "x = count :@", "x = count : {@}", "x = count : { @!q(1) }", "x = count : { x @= 1 }", "x = count : { @_(1) }", "x = count : { q @= 1 }", "x = count : { q(1)@, q(2) }", "x = count : { q(1) @q(2) }", "x = count : { q(1)@", "x = count : { q(1) } @}", "x = count : { q(1) } @+ 1", "x = count : { q(1) } @= 1", "x = sum y : { q(@) }", "x = sum y : @q(1)", "x = sum y : { @{ q(1) } }", "x = count : { count @: { q(1) } }",
	} {
		checkWrong(t, "p(1) :- "+s+".", api.ErrParse)
		checkWrong(t, "p(1). p(x) :- q(x, y), "+s+", r(2). )", api.ErrParse)
	}
}

// P4.1
func TestHeadsThatCannotBe(t *testing.T) {
	for _, head := range []string{"p(_)", "p(1, _)", "p(x + 1)", "p(1 + 1)", "p(x, (x * 2), x)", "p(-1 - 1)", "p((x - y))", "p(_, _)"} {
		for _, behind := range []string{"", ".", " :- q(1).", " )", " , 1", " :- \"a\" + 1 = 2."} {
			checkWrong(t, "@"+head+behind, api.ErrParse)
			checkWrong(t, "p(1). q(x) :- r(x). @"+head+behind, api.ErrParse)
		}
	}
	for _, head := range []string{"p(x)", "p(1, x)", "p((x))", "p(\"a\", x, 1)", "p(count)"} {
		checkWrong(t, "@"+head+".", api.ErrParse)
		checkWrong(t, ".decl p(a: number) p(1). @"+head+". )", api.ErrParse)
		checkWrong(t, head, api.ErrParse)
		checkWrong(t, head+"@q(1).", api.ErrParse)
		checkWrong(t, head+"@, q(1).", api.ErrParse)
		checkWrong(t, head+" :- @.", api.ErrParse)
	}
	// What is wrong ahead of the head's end is met ahead of what is wrong with the head.
	for _, s := range []string{"p(_", "p(_ @.", "p(_, @)", "p(x + @)", "p(x + 1 @.", "p(x + 1, 2 @2)", "p(_, \"a\" @+ 1)", "p(_ @_)"} {
		checkWrong(t, s, api.ErrParse)
	}
	checkWrong(t, "p(_, 2, 3, 4, 5, 6, 7, 8, @9)", api.ErrLong)
	checkWrong(t, "p(_, @"+sumOf(21)+")", api.ErrDeep)
}

// P4.1
func TestSignsNextToSymbols(t *testing.T) {
	for _, s := range []string{
		"\"a\" @+ 1", "\"a\" @- 1", "\"a\" @* 1", "1 @+ \"a\"", "1 @- \"a\"", "1 @* \"a\"", "\"a\" @+ \"b\"", "\"a\" @* \"b\"", "(\"a\") @+ 1", "1 @* ((\"a\"))", "(1 @+ \"a\")", "(\"a\" @- x)",
		"x + 1 @+ \"a\"", "x * 2 @+ \"a\"", "x + 2 @* \"a\"", "x @+ \"a\" + 1", "\"a\" @+ \"b\" + \"c\"", "\"a\" @* \"b\" * \"c\"", "\"a\" @* \"b\" + \"c\"", "1 + \"a\" @* 2", "1 @+ \"a\" + 2 * \"b\"",
		"\"a\" @+ x * y", "\"a\" @+ (x + y)", "\"a\" @* (x + y)", "\"a\" + (x @* \"b\")", "\"a\" @- -1", "\"a\" + 2 @* \"b\"", "\"a\" + (\"b\" @- 1)", "(x @* \"a\") + \"b\"", "x @* \"\"",
	} {
		for _, behind := range []string{"", ")", " = 1.", " = \"a\" + 1.", ", 1", "}", " x", " .decl"} {
			checkWrong(t, "p(1) :- "+s+behind, api.ErrParse)
			checkWrong(t, "p(1) :- x = "+s+behind, api.ErrParse)
			checkWrong(t, "p(1) :- q(_, "+s+behind, api.ErrParse)
			checkWrong(t, "p("+s+behind, api.ErrParse)
			checkWrong(t, "p(1) :- n = count : { q("+s+behind, api.ErrParse)
		}
	}
	// What is wrong behind the sign is met ahead of what is wrong with the sign.
	for _, s := range []string{
		"\"a\" + ", "\"a\" + @.", "\"a\" + @+ 1", "\"a\" * @)", "\"a\" + (1", "\"a\" + (1 @.", "\"a\" + 1 * ", "\"a\" + 1 * @, 2", "\"a\" - @_", "\"a\" * -@x", "\"a\" + - @\"a\"",
		"x + \"a\" * ", "x + \"a\" * @= 1",
	} {
		checkWrong(t, "p(1) :- "+s, api.ErrParse)
	}
	checkPart(t, "\"a\" < \"b\"", "\"a\" < \"b\"")
	checkPart(t, "q(\"a\", (\"b\"))", "q(\"a\", \"b\")")
}

// P4.1
func TestWhatIsReadAndToldIsARelationAheadNotSoMarked(t *testing.T) {
	p, q := ".decl p(a: number) ", ".decl q(a: symbol) "
	for _, w := range []string{".input ", ".output "} {
		other := map[string]string{".input ": ".output ", ".output ": ".input "}[w]
		for _, s := range []string{
			p + w + "@q", p + w + "@P", p + w + "@_", p + w + "@\"p\"", p + w + "@1", p + w + "@.", p + w + "@" + w, p + w + "@(p)", p + w + "@.decl", p + w + "p @.", p + w + "p @1", p + w + "p @, q", p + w + "p@(",
			p + q + w + "p " + w + "@p", p + q + w + "q " + w + "@q", p + q + w + "p " + other + "p " + w + "@p", p + "p(1). " + w + "@a", p + w + "@number", p + other + "p " + w + "@q",
			p + p + w + "p @" + w + "p", p + p + q + w + "p " + w + "@p", p + p + q + w + "q " + w + "p @" + w + "p", p + w + "@q " + q,
			// Where there is no relation that could be so marked, no name can stand behind the word.
			"@" + w + "p", "@" + w, "@" + w + "p " + p, "p(1). @" + w + "p", p + w + "p @" + w + "p", p + w + "p @" + w + "q", p + w + "p @" + w, p + other + "p " + w + "p @" + w + "p", p + q + w + "q " + w + "p @" + w + "z",
		} {
			checkWrong(t, s, api.ErrParse)
		}
	}
	checkWrong(t, p+".input p "+q+".input q .output p .output @p", api.ErrParse)
	checkRead(t, p+".input p "+q+".output p .output q .input q", ".decl p(a: number)\n.input p\n.output p\n.decl q(a: symbol)\n.input q\n.output q\n")
}

// P4.1, P4.2
func TestTokensThatNoTextHasAreRefused(t *testing.T) {
	long := strings.Repeat("a", 41)
	wrong := []api.Tok{{}, {Kind: 0, S: "x"}, {Kind: -1, S: "("}, {Kind: 6, S: "x"}, {Kind: 1 << 40, S: "1"}}
	for _, s := range []string{"", "1", "(", "a b", "a\n", "\u00e4", "1a", long, ".decl", "\"x\"", strings.Repeat("_", 41), "a\x00"} {
		wrong = append(wrong, api.Tok{Kind: api.DIdent, S: s})
	}
	for _, s := range []string{"", "-1", "-0", "+1", "00", "007", "0x1", "1_0", "1a", "x", " 1", "1 ", "9223372036854775808", "18446744073709551617", strings.Repeat("9", 100), "1.0", "1e3"} {
		wrong = append(wrong, api.Tok{Kind: api.DNum, S: s})
	}
	for _, s := range []string{"", "x", "1", "((", "==", "<>", "/", " (", "()", ".decl", ":=", "!!"} {
		wrong = append(wrong, api.Tok{Kind: api.DSign, S: s})
	}
	for _, s := range []string{"", ".", "decl", ".foo", "x", "(", ".decl ", "."} {
		wrong = append(wrong, api.Tok{Kind: api.DWord, S: s})
	}
	l := eachOnALine(lexed(t, ".decl p(a: number, b: symbol) .input p p(1, \"a\"). q(x, -2) :- p(x, _), !r(x * (3 + y)), x >= -1 - z, \"b\" != s, n = count : { p(_, s) }, 4 = max m : { p(m, s) }, w = min."))
	if _, _, e := dread.Parse(l); e != api.OK {
		t.Fatalf("%d", e)
	}
	for i, good := range l {
		for _, tok := range wrong {
			tok.Line = i + 1
			l[i] = tok
			if p, line, e := dread.Parse(l); !isNothing(p) || line != i+1 || e != api.ErrParse {
				t.Errorf("%v for %v: %v, %d, %d", tok, good, p, line, e)
			}
		}
		l[i] = good
	}
}

// P4.1
func TestTheLineIsThatOfTheToken(t *testing.T) {
	for _, line := range []int{-1 << 40, -1, 0, 1, 7, 1 << 40} {
		for _, s := range []string{")", "p(_)", "p(x).", "p(\"a\" + 1"} {
			l := lexed(t, s)
			for i := range l {
				l[i].Line = line
			}
			if p, at, e := dread.Parse(l); !isNothing(p) || at != line || e != api.ErrParse {
				t.Errorf("%q: %v, %d, %d", s, p, at, e)
			}
		}
	}
}
