package query_test

import (
	"fmt"
	"math"
	"reflect"
	"slices"
	"strconv"
	"strings"
	"testing"

	"sorites/api"
	"sorites/dlex"
	"sorites/dread"
	"sorites/query"
)

func num(n int64) api.Val { return api.Val{N: n} }

func sym(s string) api.Val { return api.Val{Sym: true, S: s} }

// row is one of numbers and symbols, as they stand in a text.
func row(s string) []api.Val {
	var l []api.Val
	for _, f := range strings.Fields(s) {
		if n, err := strconv.ParseInt(f, 10, 64); err == nil {
			l = append(l, num(n))
		} else {
			l = append(l, sym(strings.Trim(f, "'")))
		}
	}
	return l
}

// rows are those of a text, parted by `|`, as in "1 a | 2 ”".
func rows(s string) [][]api.Val {
	var l [][]api.Val
	for _, f := range strings.Split(s, "|") {
		if r := row(f); len(r) > 0 {
			l = append(l, r)
		}
	}
	return l
}

// all are the rows of as many relations as there are texts.
func all(l ...string) [][][]api.Val {
	var in [][][]api.Val
	for _, s := range l {
		in = append(in, rows(s))
	}
	return in
}

func same(a, b [][]api.Val) bool { return slices.EqualFunc(a, b, slices.Equal) }

func read(t *testing.T, s string) api.Prog {
	t.Helper()
	l, line, e := dlex.Lex(s)
	if e != api.OK {
		t.Fatalf("%q: %d in line %d", s, e, line)
	}
	p, line, e := dread.Parse(l)
	if e != api.OK {
		t.Fatalf("%q: %d in line %d", s, e, line)
	}
	return p
}

func of(t *testing.T, p api.Prog, k int) api.Query {
	t.Helper()
	q, e := query.Of(p, k)
	if e != api.OK {
		t.Fatalf("rule %d: %d", k, e)
	}
	return q
}

// term is a term's text, with all of its fields that say nothing there.
func term(t api.Term) string {
	sign := map[int]string{api.OAdd: "+", api.OSub: "-", api.OMul: "*"}[t.Op]
	switch {
	case reflect.DeepEqual(t, api.Term{Op: api.OVar, S: t.S}):
		return t.S
	case reflect.DeepEqual(t, api.Term{Op: api.OInt, N: t.N}):
		return strconv.FormatInt(t.N, 10)
	case reflect.DeepEqual(t, api.Term{Op: api.OSym, S: t.S}):
		return strconv.Quote(t.S)
	case len(t.L) == 2 && reflect.DeepEqual(t, api.Term{Op: t.Op, L: t.L}) && sign != "":
		return "(" + term(t.L[0]) + sign + term(t.L[1]) + ")"
	}
	return fmt.Sprintf("%#v", t)
}

// step is a step's text: of its fields those that are not empty.
func step(s api.Step) string {
	kinds := map[int]string{api.SScan: "scan", api.SNone: "none", api.SHold: "hold", api.SLet: "let", api.SFold: "fold"}
	l := []string{kinds[s.Op]}
	v := reflect.ValueOf(s)
	for i := 1; i < v.NumField(); i++ {
		f, name := v.Field(i), v.Type().Field(i).Name
		switch x := f.Interface().(type) {
		case api.Term:
			if !reflect.DeepEqual(x, api.Term{}) {
				l = append(l, name+":"+term(x))
			}
		case []api.Term:
			var terms []string
			for _, t := range x {
				terms = append(terms, term(t))
			}
			if len(terms) > 0 {
				l = append(l, name+":"+strings.Join(terms, ","))
			}
		case []int, []string:
			if f.Len() > 0 {
				l = append(l, name+":"+strings.ReplaceAll(strings.Trim(fmt.Sprint(x), "[]"), " ", ","))
			}
		default:
			if !f.IsZero() {
				l = append(l, fmt.Sprint(name, ":", x))
			}
		}
	}
	return strings.Join(l, " ")
}

// text is a query's: its relation, its steps, a row's terms, and its Delta, if
// that is not -1.
func text(q api.Query) string {
	l := []string{strconv.Itoa(q.Rel)}
	for _, s := range q.Steps {
		l = append(l, step(s))
	}
	var out []string
	for _, t := range q.Out {
		out = append(out, term(t))
	}
	l = append(l, "out "+strings.Join(out, ","))
	if q.Delta != -1 {
		l = append(l, "delta "+strconv.Itoa(q.Delta))
	}
	return strings.Join(l, "; ")
}

// of one, two and three numbers, a symbol, and a symbol and a number.
const decls = `.decl a(x: number)
.decl b(x: number, y: number)
.decl e(x: number, y: number, z: number)
.decl s(x: symbol)
.decl c(x: symbol, y: number)
`

func tryOf(t *testing.T, wanted map[string]string) {
	t.Helper()
	for s, want := range wanted {
		for k, p := range []api.Prog{read(t, decls+s), read(t, decls+"a(7).\n"+s+"\na(8).")} {
			if got, e := query.Of(p, k); text(got) != want || e != api.OK {
				t.Errorf("%s: %s, %d, not %s", s, text(got), e, want)
			}
		}
	}
}

// P11.1
func TestOfFacts(t *testing.T) {
	tryOf(t, map[string]string{
		`a(3).`:                   "0; out 3",
		`e(1, -2, 1).`:            "2; out 1,-2,1",
		`s("q").`:                 `3; out "q"`,
		`c("", 0).`:               `4; out "",0`,
		`a(9223372036854775807).`: "0; out 9223372036854775807",
	})
}

// P11.1
func TestOfScans(t *testing.T) {
	tryOf(t, map[string]string{
		`a(x) :- a(x).`:                                 "0; scan BindCols:0 Binds:x; out x",
		`a(1) :- a(_).`:                                 "0; scan; out 1",
		`a(1) :- e(_, _, _).`:                           "0; scan Rel:2; out 1",
		`a(1) :- a(7).`:                                 "0; scan Cols:0 Terms:7; out 1",
		`b(y, x) :- b(x, y).`:                           "1; scan Rel:1 BindCols:0,1 Binds:x,y; out y,x",
		`b(x, x) :- b(x, x).`:                           "1; scan Rel:1 BindCols:0 Binds:x EqCols:1 Eqs:x; out x,x",
		`a(x) :- e(x, 1, x).`:                           "0; scan Rel:2 Cols:1 Terms:1 BindCols:0 Binds:x EqCols:2 Eqs:x; out x",
		`a(x) :- e(x, x, x).`:                           "0; scan Rel:2 BindCols:0 Binds:x EqCols:1,2 Eqs:x,x; out x",
		`a(x) :- e(y, x, y).`:                           "0; scan Rel:2 BindCols:0,1 Binds:y,x EqCols:2 Eqs:y; out x",
		`a(x) :- e(_, x, 1 + 2).`:                       "0; scan Rel:2 Cols:2 Terms:(1+2) BindCols:1 Binds:x; out x",
		`a(x) :- e(3, x, 3).`:                           "0; scan Rel:2 Cols:0,2 Terms:3,3 BindCols:1 Binds:x; out x",
		`s(x) :- c(x, 1).`:                              "3; scan Rel:4 Cols:1 Terms:1 BindCols:0 Binds:x; out x",
		`a(y) :- c("q", y).`:                            `0; scan Rel:4 Cols:0 Terms:"q" BindCols:1 Binds:y; out y`,
		`a(z) :- b(x, y), b(y, z).`:                     "0; scan Rel:1 BindCols:0,1 Binds:x,y; scan Rel:1 Cols:0 Terms:y BindCols:1 Binds:z; out z",
		`a(z) :- a(x), b(x, x), a(z).`:                  "0; scan BindCols:0 Binds:x; scan Rel:1 Cols:0,1 Terms:x,x; scan BindCols:0 Binds:z; out z",
		`a(z) :- a(x), e(z, x, z).`:                     "0; scan BindCols:0 Binds:x; scan Rel:2 Cols:1 Terms:x BindCols:0 Binds:z EqCols:2 Eqs:z; out z",
		`a(z) :- a(x), e(x + 1, z, x * (2 - x)).`:       "0; scan BindCols:0 Binds:x; scan Rel:2 Cols:0,2 Terms:(x+1),(x*(2-x)) BindCols:1 Binds:z; out z",
		`a(x) :- b(x + y, x), a(x), a(y).`:              "0; scan BindCols:0 Binds:x; scan BindCols:0 Binds:y; scan Rel:1 Cols:0,1 Terms:(x+y),x; out x",
		`a(x) :- b(x - 1, _), a(x).`:                    "0; scan BindCols:0 Binds:x; scan Rel:1 Cols:0 Terms:(x-1); out x",
		`c(x, y) :- c(x, y), s(x), s(z), c(z, y).`:      "4; scan Rel:4 BindCols:0,1 Binds:x,y; scan Rel:3 Cols:0 Terms:x; scan Rel:3 BindCols:0 Binds:z; scan Rel:4 Cols:0,1 Terms:z,y; out x,y",
		`e(0, -1, x) :- b(-9223372036854775807, x).`:    "2; scan Rel:1 Cols:0 Terms:-9223372036854775807 BindCols:1 Binds:x; out 0,-1,x",
		`b(x, y) :- b(x, y), b(y, x), b(x, _), b(_,y).`: "1; scan Rel:1 BindCols:0,1 Binds:x,y; scan Rel:1 Cols:0,1 Terms:y,x; scan Rel:1 Cols:0 Terms:x; scan Rel:1 Cols:1 Terms:y; out x,y",
	})
}

// P11.1
func TestOfWhatMustNotBe(t *testing.T) {
	tryOf(t, map[string]string{
		`a(1) :- !a(_).`:                       "0; none; out 1",
		`a(1) :- !a(7).`:                       "0; none Cols:0 Terms:7; out 1",
		`a(1) :- !s("q").`:                     `0; none Rel:3 Cols:0 Terms:"q"; out 1`,
		`a(x) :- !b(x, x), a(x).`:              "0; scan BindCols:0 Binds:x; none Rel:1 Cols:0,1 Terms:x,x; out x",
		`a(x) :- !e(_, x + 1, x), a(x).`:       "0; scan BindCols:0 Binds:x; none Rel:2 Cols:1,2 Terms:(x+1),x; out x",
		`a(x) :- a(x), !e(2 * x, _, _), a(y).`: "0; scan BindCols:0 Binds:x; none Rel:2 Cols:0 Terms:(2*x); scan BindCols:0 Binds:y; out x",
	})
}

// P11.1
func TestOfTermsHeld(t *testing.T) {
	tryOf(t, map[string]string{
		`a(x) :- x = 3.`:                              "0; let S:x X:3; out x",
		`a(x) :- 3 = x.`:                              "0; let S:x X:3; out x",
		`s(x) :- x = "".`:                             `3; let S:x X:""; out x`,
		`s(x) :- "q" = x.`:                            `3; let S:x X:"q"; out x`,
		`a(x) :- x = y, y = 3.`:                       "0; let S:y X:3; let S:x X:y; out x",
		`a(x) :- y = x, y = 3.`:                       "0; let S:y X:3; let S:x X:y; out x",
		`a(y) :- y = x + 1, a(x).`:                    "0; scan BindCols:0 Binds:x; let S:y X:(x+1); out y",
		`a(y) :- 2 * (x - 1) = y, a(x).`:              "0; scan BindCols:0 Binds:x; let S:y X:(2*(x-1)); out y",
		`a(x) :- x = 3, x = 3.`:                       "0; let S:x X:3; hold How:3 X:x Y:3; out x",
		`a(x) :- x = 3, 3 = x.`:                       "0; let S:x X:3; hold How:3 X:3 Y:x; out x",
		`a(x) :- a(x), x = x.`:                        "0; scan BindCols:0 Binds:x; hold How:3 X:x Y:x; out x",
		`a(x) :- b(x, y), x = y.`:                     "0; scan Rel:1 BindCols:0,1 Binds:x,y; hold How:3 X:x Y:y; out x",
		`a(x) :- a(x), x + 1 = 2 * x.`:                "0; scan BindCols:0 Binds:x; hold How:3 X:(x+1) Y:(2*x); out x",
		`a(1) :- 1 = 2.`:                              "0; hold How:3 X:1 Y:2; out 1",
		`a(1) :- "a" != "b".`:                         `0; hold How:4 X:"a" Y:"b"; out 1`,
		`a(1) :- 1 < 2, 2 <= 1 + 1.`:                  "0; hold How:5 X:1 Y:2; hold How:6 X:2 Y:(1+1); out 1",
		`a(x) :- x != 1, x < 2, a(x).`:                "0; scan BindCols:0 Binds:x; hold How:4 X:x Y:1; hold How:5 X:x Y:2; out x",
		`a(x) :- a(x), x > 1 + 2 * x.`:                "0; scan BindCols:0 Binds:x; hold How:5 X:(1+(2*x)) Y:x; out x",
		`a(x) :- a(x), b(x, y), y <= 0 - x.`:          "0; scan BindCols:0 Binds:x; scan Rel:1 Cols:0 Terms:x BindCols:1 Binds:y; hold How:6 X:y Y:(0-x); out x",
		`a(x) :- y = x + 1, a(x), y < 3.`:             "0; scan BindCols:0 Binds:x; let S:y X:(x+1); hold How:5 X:y Y:3; out x",
		`s(x) :- s(x), s(y), x < y, x = x.`:           `3; scan Rel:3 BindCols:0 Binds:x; hold How:3 X:x Y:x; scan Rel:3 BindCols:0 Binds:y; hold How:5 X:x Y:y; out x`,
		`a(x) :- e(x, 1, x), y = x + 1, !e(y, _, _).`: "0; scan Rel:2 Cols:1 Terms:1 BindCols:0 Binds:x EqCols:2 Eqs:x; let S:y X:(x+1); none Rel:2 Cols:0 Terms:y; out x",
	})
}

// P11.1
func TestOfAggregates(t *testing.T) {
	tryOf(t, map[string]string{
		`a(n) :- n = count : { a(_) }.`:                       "0; fold How:7 S:n; out n",
		`a(n) :- n = count : { b(x, y) }.`:                    "0; fold How:7 Rel:1 BindCols:0,1 Binds:x,y S:n; out n",
		`a(n) :- n = count : { b(x, x) }.`:                    "0; fold How:7 Rel:1 BindCols:0 Binds:x EqCols:1 Eqs:x S:n; out n",
		`a(n) :- n = count : { c("q", _) }.`:                  `0; fold How:7 Rel:4 Cols:0 Terms:"q" S:n; out n`,
		`a(n) :- n = count : { c(x, 1 + 2) }.`:                "0; fold How:7 Rel:4 Cols:1 Terms:(1+2) BindCols:0 Binds:x S:n; out n",
		`a(n) :- n = sum x : { a(x) }.`:                       "0; fold How:8 BindCols:0 Binds:x S:n Y:x; out n",
		`a(n) :- n = min y : { e(x, y, x) }.`:                 "0; fold How:9 Rel:2 BindCols:0,1 Binds:x,y EqCols:2 Eqs:x S:n Y:y; out n",
		`a(n) :- n = max y : { e(_, y, 3) }.`:                 "0; fold How:10 Rel:2 Cols:2 Terms:3 BindCols:1 Binds:y S:n Y:y; out n",
		`a(1) :- 7 = sum x : { a(x) }.`:                       "0; fold How:8 BindCols:0 Binds:x X:7 Y:x; out 1",
		`a(1) :- 0 = count : { a(_) }.`:                       "0; fold How:7 X:0; out 1",
		`a(x) :- a(x), x = count : { b(x, y) }.`:              "0; scan BindCols:0 Binds:x; fold How:7 Rel:1 Cols:0 Terms:x BindCols:1 Binds:y X:x; out x",
		`a(x) :- a(x), x = max x : { b(x, _) }.`:              "0; scan BindCols:0 Binds:x; fold How:10 Rel:1 Cols:0 Terms:x X:x Y:x; out x",
		`a(x) :- a(x), n = sum x : { b(_, x) }.`:              "0; scan BindCols:0 Binds:x; fold How:8 Rel:1 Cols:1 Terms:x S:n Y:x; out x",
		`b(x, n) :- n = count : { b(x, y) }, a(x).`:           "1; scan BindCols:0 Binds:x; fold How:7 Rel:1 Cols:0 Terms:x BindCols:1 Binds:y S:n; out x,n",
		`b(x, n) :- n = min y : { e(y, x + 1, y) }, a(x).`:    "1; scan BindCols:0 Binds:x; fold How:9 Rel:2 Cols:1 Terms:(x+1) BindCols:0 Binds:y EqCols:2 Eqs:y S:n Y:y; out x,n",
		`a(n) :- n = sum x : { a(x) }, n = max y : { a(y) }.`: "0; fold How:8 BindCols:0 Binds:x S:n Y:x; fold How:10 BindCols:0 Binds:y X:n Y:y; out n",
		`a(m) :- n = count : { a(_) }, m = n * 2, n < m.`:     "0; fold How:7 S:n; let S:m X:(n*2); hold How:5 X:n Y:m; out m",
		`a(y) :- n = count : { a(x) }, b(n, y), a(y).`:        "0; fold How:7 BindCols:0 Binds:x S:n; scan Rel:1 Cols:0 Terms:n BindCols:1 Binds:y; scan Cols:0 Terms:y; out y",
	})
}

// P11.1: the place of a relation, of each one.
func TestOfPlaces(t *testing.T) {
	var s strings.Builder
	for k := range api.MaxDecls {
		fmt.Fprintf(&s, ".decl r%d(x: number)\n", k)
	}
	for k := range api.MaxDecls {
		fmt.Fprintf(&s, "r%d(x) :- r%d(x), !r%d(x), n = count : { r%d(_) }.\n", k, (k+1)%60, (k+2)%60, (k+3)%60)
	}
	p := read(t, s.String())
	for k := range api.MaxDecls {
		q := of(t, p, k)
		if l := q.Steps; q.Rel != k || l[0].Op != api.SFold || l[0].Rel != (k+3)%60 || l[1].Rel != (k+1)%60 || l[2].Rel != (k+2)%60 {
			t.Errorf("%d: %s", k, text(q))
		}
	}
}

// wrongs are texts of programs that are wrong, of the relation a of a number.
var wrongs = map[string]api.Errno{
	".decl a(y: number)":      api.ErrTwice,
	"b(1).":                   api.ErrNoRel,
	"a(x) :- a(x), !b(x).":    api.ErrNoRel,
	"a(1, 2).":                api.ErrArity,
	"a(\"s\").":               api.ErrType,
	"a(1) :- a(x), x = \"\".": api.ErrType,
	"a(x) :- a(y).":           api.ErrUnsafe,
	"a(x) :- a(y), !a(x).":    api.ErrUnsafe,
	"a(y) :- a(x), y < 3.":    api.ErrUnsafe,
}

var noRules = []int{-1, -2, 60, 200, math.MinInt, math.MaxInt}

// P11.1
func TestOfWrongThings(t *testing.T) {
	const right = ".decl a(x: number)\na(x) :- a(x).\na(1).\n"
	nothing := func(q api.Query) bool { return reflect.DeepEqual(q, api.Query{}) }
	for s, want := range wrongs {
		for _, k := range append(noRules, 0, 1, 2) {
			if q, e := query.Of(read(t, right+s), k); !nothing(q) || e != want {
				t.Errorf("%q, %d: %s, %d, not %d", s, k, text(q), e, want)
			}
		}
	}
	for _, k := range append(noRules, 2, 3) {
		if q, e := query.Of(read(t, right), k); !nothing(q) || e != api.ErrArg {
			t.Errorf("%d: %s, %d", k, text(q), e)
		}
	}
	for _, k := range []int{0, 1, -1} {
		if q, e := query.Of(api.Prog{}, k); !nothing(q) || e != api.ErrArg {
			t.Errorf("no rules, %d: %s, %d", k, text(q), e)
		}
		if q, e := query.Of(api.Prog{Rules: make([]api.Rule, 2)}, k); !nothing(q) || e != api.ErrTree {
			t.Errorf("no right rules, %d: %s, %d", k, text(q), e)
		}
	}
}

// P11.1: a rule by itself has a query though its program is not layered.
func TestOfProgramsThatAreNotLayered(t *testing.T) {
	tryOf(t, map[string]string{
		`a(x) :- a(x), !a(x).`:          "0; scan BindCols:0 Binds:x; none Cols:0 Terms:x; out x",
		`a(y) :- a(x), y = x + 1.`:      "0; scan BindCols:0 Binds:x; let S:y X:(x+1); out y",
		`a(n) :- n = sum x : { a(x) }.`: "0; fold How:8 BindCols:0 Binds:x S:n Y:x; out n",
	})
}

// P11.1, P11.2: the longest bodies, the most columns, the highest terms.
func TestAtTheLimits(t *testing.T) {
	high := "x0"
	for range api.MaxDeep - 1 {
		high = "(1 + " + high + ")"
	}
	p := read(t, ".decl w(a: number, b: number, c: number, d: number, e: number, f: number, g: number, h: number)\n"+
		"w(x0, x1, x2, x3, x4, x5, x6, x7) :- w(x7, x6, x5, x4, x3, x2, x1, x0), "+chain("w("+high+", X, x0, _, X, x7, 1, _)", 18)+", w(x17, y, y, y, y, y, y, y).")
	q := of(t, p, 0)
	if want := text(queryByWords(p, 0)); text(q) != want || len(q.Steps) != api.MaxBody || len(q.Steps[1].Terms) != 6 {
		t.Errorf("%s, not %s", text(q), want)
	}
	in := [][][]api.Val{rows("1 2 1 1 1 1 1 1 | 3 1 1 1 1 1 1 1 | 20 1 1 1 1 3 1 9 | 20 3 1 1 3 3 1 9")}
	got, e := query.Run(p, q, in, nil)
	if want := runByWords(queryByWords(p, 0), in, nil); !same(got, want) || !same(want, rows("1 1 1 1 1 1 1 3")) || e != api.OK {
		t.Errorf("%v, %d, not %v", got, e, want)
	}
	for k := range api.MaxBody {
		q.Delta = k
		none, e := query.Run(p, q, in, nil)
		whole, e2 := query.Run(p, q, in, in[0])
		if len(none) != 0 || !same(whole, got) || e != api.OK || e2 != api.OK {
			t.Errorf("step %d: %v, %d, %v, %d", k, none, e, whole, e2)
		}
	}
}
