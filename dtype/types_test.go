package dtype_test

import (
	"slices"
	"strconv"
	"strings"
	"testing"

	"sorites/api"
	"sorites/dtree"
	"sorites/dtype"
)

const someRelations = `.decl p(a: number, b: symbol) .decl n(a: number) .decl s(a: symbol) .decl nn(a: number, b: number) .decl ss(a: symbol, b: symbol) `

// checkTypes holds Types, and Check of the same rule, against the types that
// are wanted, as digits in a row, or an error.
func checkTypes(t *testing.T, rule, want string, wantErr api.Errno) {
	t.Helper()
	p := read(t, someRelations+"\n"+rule)
	got, e := dtype.Types(p.Decls, p.Rules[0])
	said := ""
	for _, kind := range got {
		said += strconv.Itoa(kind)
	}
	if said != want || e != wantErr {
		t.Errorf("%q: %q, %d, not %q, %d", rule, said, e, want, wantErr)
	}
	wantLine := 0
	if wantErr != api.OK {
		wantLine = 2
	}
	if line, e := dtype.Check(p); line != wantLine || e != wantErr {
		t.Errorf("%q: Check: %d, %d", rule, line, e)
	}
}

// P5.2
func TestTypesOfRulesThatFit(t *testing.T) {
	for rule, want := range map[string]string{
		`n(1).`:                                       "",
		`p(-3, "s").`:                                 "",
		`n(1) :- p(_, _), s("x"), "a" = "a"`:          "",
		`p(x, y) :- p(x, y), x < 3.`:                  "12",
		`p(x, y) :- n(x), s(y)`:                       "12",
		`p(1, y) :- ss(y, x)`:                         "22",
		`n(1) :- !p(x, y)`:                            "12",
		`n(1) :- n(x + y)`:                            "11",
		`n(1) :- x + y < 1`:                           "11",
		`n(1) :- 1 < x * y`:                           "11",
		`n(1) :- x = y - 1`:                           "11",
		`n(1) :- !nn(1, (x - y) * (z + w))`:           "1111",
		`n(1) :- x = 1`:                               "1",
		`n(1) :- 1 != x`:                              "1",
		`n(1) :- x = "s"`:                             "2",
		`n(1) :- "s" <= x`:                            "2",
		`n(1) :- "s" < "t", 1 < 2 + 3`:                "",
		`n(1) :- x = y, s(y)`:                         "22",
		`n(1) :- x != y, s(x)`:                        "22",
		`n(1) :- s(x), x < y, y <= z`:                 "222",
		`n(1) :- x = y, y = z, z = w, w = 1`:          "1111",
		`n(1) :- w = 1, z = w, y = z, x = y`:          "1111",
		`n(x) :- x = y, y != z`:                       "111",
		`s(x) :- y = x, z < y, a = b, b = 1`:          "22211",
		`n(1) :- x = x, s(x)`:                         "2",
		`n(1) :- x = count : { p(_, s) }`:             "12",
		`n(1) :- 3 = count : { p(k, "t") }`:           "1",
		`n(1) :- x = count : { s(y) }, z <= y, w = x`: "1221",
		`n(1) :- x = sum k : { p(k, s) }`:             "112",
		`n(1) :- x = min k : { s(s) }`:                "112",
		`n(1) :- -1 = max k : { ss(_, s) }`:           "12",
		`n(1) :- x = max k : { n(k + j) }, x = y`:     "1111",
		`p(n, s) :- p(_, s), n = max k : { p(k, s) }`: "121",
		`p(x, s) :- p(y, s), x = y + 1, s != "a"`:     "121",
	} {
		checkTypes(t, strings.TrimSuffix(rule, ".")+".", want, api.OK)
	}
}

// P5.2
func TestRulesThatDoNotFit(t *testing.T) {
	for _, rule := range []string{
		`n("s")`, `s(1)`, `s(-1)`, `p("s", 1)`, `p("s", "s")`, `p(1, 1)`,
		`p(x, x) :- p(x, _)`, `p(x, x) :- n(1)`, `n(x) :- s(x)`, `n(1) :- p(x, x)`, `n(1) :- n(x), s(x)`, `n(1) :- n(x), !s(x)`,
		`n(1) :- s(1)`, `n(1) :- n("s")`, `n(1) :- !n("s")`, `n(1) :- !s(1)`, `n(1) :- nn(1, "s")`,
		`n(1) :- s(1 + 2)`, `n(1) :- s(x + 1), n(x)`, `n(1) :- s(x), n(x + 1)`, `n(1) :- s(x), n(1 - (2 * x))`,
		`n(1) :- x = y`, `n(1) :- x = x`, `n(1) :- x < y, y < z, n(w)`, `n(x) :- y = z`,
		`n(1) :- 1 = "s"`, `n(1) :- "s" != 1`, `n(1) :- "s" < 1 + 1`, `n(1) :- 2 * 2 <= "s"`,
		`n(1) :- x = 1, x = "s"`, `n(1) :- x < "s", x + 1 = 2`, `n(1) :- x = y, y = z, n(x), s(z)`, `n(1) :- n(x), x = y, s(y)`,
		`n(1) :- s(x), x = 1`, `n(1) :- s(x), 1 >= x`, `n(1) :- s(x), x = y + 1`, `n(1) :- s(x), x + 1 = y`, `p(x, s) :- p(y, s), x = s`,
		`n(1) :- x = count : { n(_) }, s(x)`, `s(x) :- x = count : { s(_) }`, `n(1) :- x = count : { s(x) }`,
		`n(1) :- x = sum k : { s(k) }`, `n(1) :- x = min k : { s(k) }`, `n(1) :- x = max k : { s(k) }`,
		`s(x) :- x = sum k : { n(k) }`, `s(x) :- x = min k : { n(k) }`, `s(x) :- x = max k : { n(k) }`,
		`n(1) :- 1 = sum k : { n(_) }, s(k)`, `n(1) :- 1 = count : { n("s") }`, `n(1) :- 1 = count : { s(1) }`, `n(1) :- 1 = count : { s(x + 1) }`,
		`n(1) :- 1 = count : { p(x, x) }`, `n(1) :- 1 = max k : { p(k, k) }`,
	} {
		checkTypes(t, rule+".", "", api.ErrType)
	}
}

// P5.2
func TestTheFirstAtomThatIsWrongIsTold(t *testing.T) {
	for rule, want := range map[string]api.Errno{
		`q(1)`:                            api.ErrNoRel,
		`q(1, 2, 3)`:                      api.ErrNoRel,
		`n(1, 2)`:                         api.ErrArity,
		`p(1)`:                            api.ErrArity,
		`N(1)`:                            api.ErrNoRel,
		`n("s") :- q(1)`:                  api.ErrNoRel,
		`n("s") :- p(1)`:                  api.ErrArity,
		`q(1) :- n(1, 2)`:                 api.ErrNoRel,
		`n(1, 2) :- q(1)`:                 api.ErrArity,
		`n(1) :- n(1, 2), q(1)`:           api.ErrArity,
		`n(1) :- q(1), n(1, 2)`:           api.ErrNoRel,
		`n(1) :- !n(1, 2), q(1)`:          api.ErrArity,
		`n(1) :- !q(1), n(1, 2)`:          api.ErrNoRel,
		`n(1) :- 1 = "s", q(1)`:           api.ErrNoRel,
		`n(1) :- n(_, _)`:                 api.ErrArity,
		`n(1) :- p(_, _, _)`:              api.ErrArity,
		`n(1) :- 1 = count : { q(_) }`:    api.ErrNoRel,
		`n(1) :- x = sum y : { q(y) }`:    api.ErrNoRel,
		`n(1) :- x = min y : { n(y, z) }`: api.ErrArity,
		`n(1) :- x = max y : { p(y) }, 1 = count : { q(y) }`: api.ErrArity,
		`n(1) :- x = y, s(x), n(x), n(1), !q(x)`:             api.ErrNoRel,
		`n(1) :- s(1), n(x, y)`:                              api.ErrArity,
	} {
		checkTypes(t, rule+".", "", want)
	}
}

// P5.2
func TestOfTwoRelationsOfOneNameTheFirstCounts(t *testing.T) {
	p := read(t, `.decl p(a: number) .decl p(a: symbol) .decl p(a: number, b: number) p(1). p("s"). p(1, 2). p(x) :- p(x).`)
	for i, want := range []api.Errno{api.OK, api.ErrType, api.ErrArity, api.OK} {
		if _, e := dtype.Types(p.Decls, p.Rules[i]); e != want {
			t.Errorf("%d: %d", i, e)
		}
	}
	for k, want := range [][]int{{api.TNum}, {api.TSym}} {
		if got, e := dtype.Types(p.Decls[k:], p.Rules[3]); !slices.Equal(got, want) || e != api.OK {
			t.Errorf("from %d on: %v, %d", k, got, e)
		}
	}
}

// P5.2
func TestTypesOfNoRelations(t *testing.T) {
	for _, s := range []string{`p(1).`, `p(x) :- x = 1.`, `p(x) :- p(x).`} {
		for _, none := range [][]api.Decl{nil, {}} {
			if got, e := dtype.Types(none, readRule(t, s)); len(got) != 0 || e != api.ErrNoRel {
				t.Errorf("%q: %v, %d", s, got, e)
			}
		}
	}
}

// P5.2
func TestWrongRulesHaveNoTypes(t *testing.T) {
	decls := read(t, `.decl p(a: number) .decl q(a: number)`).Decls
	for i, r := range wrongRules() {
		for _, l := range [][]api.Decl{decls, nil, decls[:1]} {
			if got, e := dtype.Types(l, r); len(got) != 0 || e != api.ErrTree {
				t.Errorf("%d: %v, %d", i, got, e)
			}
		}
	}
}

// wrongDecls are relations' lists that are none of a program.
func wrongDecls() [][]api.Decl {
	right := api.Decl{Rel: "p", Names: []string{"a"}, Types: []int{1}}
	l := [][]api.Decl{slices.Repeat([]api.Decl{right}, api.MaxDecls+1)}
	for _, wrong := range []api.Decl{
		{},
		{Rel: "p"},
		{Rel: "_", Names: []string{"a"}, Types: []int{1}},
		{Rel: "p q", Names: []string{"a"}, Types: []int{1}},
		{Rel: "p", Names: []string{"a"}},
		{Rel: "p", Types: []int{1}},
		{Rel: "p", Names: []string{"a"}, Types: []int{0}},
		{Rel: "p", Names: []string{"a"}, Types: []int{3}},
		{Rel: "p", Names: []string{"_"}, Types: []int{1}},
		{Rel: "p", Names: []string{"a"}, Types: []int{1, 1}},
		{Rel: "p", Names: []string{"a", "b"}, Types: []int{1}},
		{Rel: "p", Names: slices.Repeat([]string{"a"}, 9), Types: slices.Repeat([]int{1}, 9)},
	} {
		l = append(l, []api.Decl{wrong}, []api.Decl{right, wrong})
	}
	return l
}

// P5.2
func TestTypesOfWrongRelations(t *testing.T) {
	for i, decls := range wrongDecls() {
		for _, s := range []string{`p(1).`, `p("s").`, `p(1, 2).`, `q(1).`} {
			if got, e := dtype.Types(decls, readRule(t, s)); len(got) != 0 || e != api.ErrTree {
				t.Errorf("%d, %q: %v, %d", i, s, got, e)
			}
		}
	}
	most := slices.Repeat([]api.Decl{{Rel: "q", Names: []string{"a"}, Types: []int{1}}}, api.MaxDecls-1)
	most = append(most, api.Decl{Rel: "p", Names: []string{"a", "a"}, Types: []int{2, 1}})
	if got, e := dtype.Types(most, readRule(t, `p(x, y) :- q(y).`)); !slices.Equal(got, []int{2, 1}) || e != api.OK {
		t.Errorf("the most relations: %v, %d", got, e)
	}
}

// P5.2: a chain of as many terms held against each other as a rule has parts,
// whose type is told at its end.
func TestTypesComeThroughLongChains(t *testing.T) {
	for kind, end := range map[string]string{"1": "7", "2": `"s"`} {
		for _, sign := range []string{" = ", " != ", " < ", " <= "} {
			var parts []string
			for i := range api.MaxBody - 1 {
				a, b := "v"+strconv.Itoa(i), "v"+strconv.Itoa(i+1)
				if i%3 == 0 {
					a, b = b, a
				}
				parts = append(parts, a+sign+b)
			}
			parts = append(parts, "v"+strconv.Itoa(api.MaxBody-1)+sign+end)
			checkTypes(t, "n(1) :- "+strings.Join(parts, ", ")+".", strings.Repeat(kind, api.MaxBody), api.OK)
			slices.Reverse(parts)
			checkTypes(t, "n(1) :- "+strings.Join(parts, ", ")+".", strings.Repeat(kind, api.MaxBody), api.OK)
			parts[0] = parts[1]
			checkTypes(t, "n(1) :- "+strings.Join(parts, ", ")+".", "", api.ErrType)
		}
	}
}

// P5.2
func TestTypesOfALargeTerm(t *testing.T) {
	full := func(least api.Term) api.Term {
		for range api.MaxDeep - 1 {
			least = two(api.OMul, least, least)
		}
		return least
	}
	decls := read(t, someRelations).Decls
	r := api.Rule{Head: atom("n", variable("y")), Body: []api.Lit{{Op: api.LEq, X: full(variable("x")), Y: variable("y")}}}
	if got, e := dtype.Types(decls, r); !slices.Equal(got, []int{1, 1}) || e != api.OK {
		t.Errorf("%v, %d", got, e)
	}
	r.Head.Rel = "s"
	if got, e := dtype.Types(decls, r); len(got) != 0 || e != api.ErrType {
		t.Errorf("%v, %d", got, e)
	}
}

// P5.2, R3
func TestTypesAreNewMemory(t *testing.T) {
	p := read(t, someRelations+`p(x, y) :- p(x, y).`)
	a, _ := dtype.Types(p.Decls, p.Rules[0])
	for i := range a[:cap(a)] {
		a[:cap(a)][i] = 9
	}
	b, e := dtype.Types(p.Decls, p.Rules[0])
	if !slices.Equal(b, []int{1, 2}) || e != api.OK || !slices.Equal(p.Decls[0].Types, []int{1, 2}) {
		t.Errorf("%v, %d", b, e)
	}
}

// P5.3
func TestCheck(t *testing.T) {
	const decls = ".decl p(a: number)\n.decl q(a: symbol)\n"
	for s, want := range map[string]struct {
		line int
		e    api.Errno
	}{
		"":                            {0, api.OK},
		decls:                         {0, api.OK},
		decls + "p(1).\nq(\"s\").":    {0, api.OK},
		decls + "p(1).\nq(1).\nr(1).": {4, api.ErrType},
		decls + "p(1).\nr(1).\nq(1).": {4, api.ErrNoRel},
		decls + "p(1, 2).\nr(1).":     {3, api.ErrArity},
		decls + "r(1).\n.decl r(a: number)\nr(2).":                              {0, api.OK},
		decls + ".decl p(a: number)":                                            {3, api.ErrTwice},
		decls + ".decl p(a: number, b: symbol)":                                 {3, api.ErrTwice},
		decls + ".decl P(a: number)":                                            {0, api.OK},
		decls + "r(1).\n.decl q(a: symbol)":                                     {4, api.ErrTwice},
		decls + "p(\"s\").\np(1, 2).\n\n.decl\np(a: number) .decl q(a: symbol)": {6, api.ErrTwice},
		decls + ".decl q(a: symbol)\n.decl p(a: number)":                        {3, api.ErrTwice},
		decls + ".decl p(a: number)\n.decl p(a: number)":                        {3, api.ErrTwice},
		decls + "p(1)\n.\np(x)\n:-\nw\n= x, p(x), q(w).":                        {5, api.ErrType},
		"p(1).\np(\"s\").\n\n.decl p(a: symbol)":                                {1, api.ErrType},
		"\np(1).":                                                               {2, api.ErrNoRel},
	} {
		if line, e := dtype.Check(read(t, s)); line != want.line || e != want.e {
			t.Errorf("%q: %d, %d, not %v", s, line, e, want)
		}
	}
}

// P5.3
func TestCheckTellsTheLineThatStandsThere(t *testing.T) {
	p := read(t, `.decl p(a: number) .decl p(a: number) .decl q(a: number) q(1). q("s"). q("t").`)
	p.Decls[0].Line, p.Decls[1].Line, p.Decls[2].Line = 70, -5, 60
	if line, e := dtype.Check(p); line != -5 || e != api.ErrTwice {
		t.Errorf("%d, %d", line, e)
	}
	p.Decls = p.Decls[1:]
	p.Rules[0].Line, p.Rules[1].Line, p.Rules[2].Line = 9, 0, 8
	if line, e := dtype.Check(p); line != 0 || e != api.ErrType {
		t.Errorf("%d, %d", line, e)
	}
	p.Rules = p.Rules[:1]
	if line, e := dtype.Check(p); line != 0 || e != api.OK {
		t.Errorf("%d, %d", line, e)
	}
}

// P5.3
func TestCheckOfWrongPrograms(t *testing.T) {
	twice := read(t, ".decl p(a: number)\n.decl p(a: number)\nq(1).")
	for i, r := range wrongRules() {
		r.Line = 7
		for _, rules := range [][]api.Rule{{r}, {twice.Rules[0], r}, {r, twice.Rules[0]}} {
			if line, e := dtype.Check(api.Prog{Decls: twice.Decls, Rules: rules}); line != 0 || e != api.ErrTree {
				t.Errorf("rule %d: %d, %d", i, line, e)
			}
		}
	}
	for i, decls := range wrongDecls() {
		if line, e := dtype.Check(api.Prog{Decls: decls, Rules: twice.Rules}); line != 0 || e != api.ErrTree {
			t.Errorf("relations %d: %d, %d", i, line, e)
		}
	}
	fact := api.Rule{Head: atom("p", number(1)), Line: 7}
	many := api.Prog{Decls: twice.Decls[:1], Rules: slices.Repeat([]api.Rule{fact}, api.MaxRules+1)}
	if line, e := dtype.Check(many); line != 0 || e != api.ErrTree {
		t.Errorf("%d, %d", line, e)
	}
	many.Rules = many.Rules[1:]
	if line, e := dtype.Check(many); line != 0 || e != api.OK {
		t.Errorf("%d, %d", line, e)
	}
	many.Rules[api.MaxRules-1] = api.Rule{Head: atom("p", symbol("s")), Line: 8}
	if line, e := dtype.Check(many); line != 8 || e != api.ErrType || !dtree.Right(many) {
		t.Errorf("%d, %d", line, e)
	}
}
