package query_test

import (
	"maps"
	"math/rand"
	"slices"
	"strings"
	"testing"

	"sorites/api"
	"sorites/dsafe"
	"sorites/dtree"
	"sorites/dtype"
	"sorites/model"
	"sorites/query"
	"sorites/rel"
)

// What is made here are programs by chance, typed and safe, of these
// relations, and rows of few values.

const chanceDecls = `.decl a(x: number)
.decl b(x: number, y: number)
.decl c(x: symbol, y: number)
.decl d(x: symbol)
.decl f(x: number, y: number, z: number)
.decl g(x: number, y: symbol, z: number)
`

func one(rng *rand.Rand, l ...string) string { return l[rng.Intn(len(l))] }

func aNumber(rng *rand.Rand) string {
	return one(rng, "x", "x", "y", "y", "z", "w", "0", "1", "2", "-1")
}

func aSymbol(rng *rand.Rand) string { return one(rng, "u", "u", "v", `"a"`, `"b"`, `""`) }

func aSum(rng *rand.Rand) string {
	if rng.Intn(3) > 0 {
		return aNumber(rng)
	}
	return "(" + aNumber(rng) + one(rng, " + ", " - ", " * ") + aNumber(rng) + ")"
}

// anAtom has sums, and `_`, but in heads.
func anAtom(rng *rand.Rand, isHead bool) string {
	name := one(rng, "a", "b", "b", "c", "d", "f", "f", "g")
	var args []string
	for _, kind := range map[string]string{"a": "n", "b": "nn", "c": "sn", "d": "s", "f": "nnn", "g": "nsn"}[name] {
		arg := aSymbol(rng)
		switch {
		case !isHead && rng.Intn(6) == 0:
			arg = "_"
		case kind == 'n' && isHead:
			arg = aNumber(rng)
		case kind == 'n':
			arg = aSum(rng)
		}
		args = append(args, arg)
	}
	return name + "(" + strings.Join(args, ", ") + ")"
}

func aPart(rng *rand.Rand) string {
	switch rng.Intn(14) {
	case 0, 1:
		return "!" + anAtom(rng, false)
	case 2:
		return aSum(rng) + one(rng, " < ", " <= ", " != ", " = ") + aSum(rng)
	case 3:
		return one(rng, "x", "y", "z", "w") + " = " + aSum(rng)
	case 4:
		return aSymbol(rng) + one(rng, " < ", " <= ", " != ", " = ") + aSymbol(rng)
	case 5:
		return aNumber(rng) + " = count : { " + anAtom(rng, false) + " }"
	case 6, 7:
		y := one(rng, "x", "y", "z", "w")
		return aNumber(rng) + one(rng, " = sum ", " = min ", " = min ", " = max ", " = max ") + y + " : { " + anAtom(rng, false) + " }"
	}
	return anAtom(rng, false)
}

func aRule(rng *rand.Rand) string {
	var parts []string
	for range 1 + rng.Intn(5) {
		parts = append(parts, aPart(rng))
	}
	return anAtom(rng, true) + " :- " + strings.Join(parts, ", ") + ".\n"
}

// aProgram has at most so many rules.
func aProgram(t *testing.T, rng *rand.Rand, most int) api.Prog {
	t.Helper()
	p := read(t, chanceDecls)
	for n := 1 + rng.Intn(most); len(p.Rules) < n; {
		longer := p
		longer.Rules = append(slices.Clone(p.Rules), read(t, aRule(rng)).Rules...)
		if _, e := dsafe.Check(longer); e == api.OK {
			p = longer
		}
	}
	return p
}

func someRowsOf(rng *rand.Rand, d api.Decl, most int) [][]api.Val {
	var l [][]api.Val
	for range rng.Intn(most + 1) {
		var r []api.Val
		for _, kind := range d.Types {
			if kind == api.TNum {
				r = append(r, num(int64(rng.Intn(5)-1)))
			} else {
				r = append(r, sym(one(rng, "", "a", "b", "c")))
			}
		}
		l = append(l, r)
	}
	return rel.Sort(l)
}

func someRows(rng *rand.Rand, p api.Prog) [][][]api.Val {
	var in [][][]api.Val
	for _, d := range p.Decls {
		in = append(in, someRowsOf(rng, d, 8))
	}
	return in
}

func rise(l [][]api.Val) [][]api.Val { return rel.Sort(l) }

func shown(p api.Prog) string {
	s, _ := dtree.Show(p)
	return s
}

// What follows is what the document says of queries, column by column.

func isBound(t api.Term, bound []string) bool {
	return t.Op != api.OVar || slices.Contains(bound, t.S)
}

func columnsByWords(s *api.Step, a api.Atom, bound []string) {
	for c, t := range a.L {
		isEarlier := slices.ContainsFunc(a.L[:c], func(u api.Term) bool { return u.Op == api.OVar && u.S == t.S })
		switch {
		case t.Op == api.OAny:
		case isBound(t, bound):
			s.Cols = append(s.Cols, c)
			s.Terms = append(s.Terms, t)
		case isEarlier:
			s.EqCols = append(s.EqCols, c)
			s.Eqs = append(s.Eqs, t.S)
		default:
			s.BindCols = append(s.BindCols, c)
			s.Binds = append(s.Binds, t.S)
		}
	}
}

func stepByWords(decls []api.Decl, l api.Lit, bound []string) api.Step {
	var s api.Step
	if l.A.Rel != "" {
		s.Rel, _ = dtype.Find(decls, l.A.Rel)
		columnsByWords(&s, l.A, bound)
	}
	switch {
	case l.Op == api.LAtom:
		s.Op = api.SScan
	case l.Op == api.LNot:
		s.Op = api.SNone
	case l.Op >= api.LCount:
		s.Op, s.How, s.Y, s.X = api.SFold, l.Op, l.Y, l.X
		if !isBound(l.X, bound) && !slices.ContainsFunc(l.A.L, func(t api.Term) bool { return names(t, l.X.S) }) {
			s.S, s.X = l.X.S, api.Term{}
		}
	case l.Op == api.LEq && !isBound(l.X, bound):
		s.Op, s.S, s.X = api.SLet, l.X.S, l.Y
	case l.Op == api.LEq && !isBound(l.Y, bound):
		s.Op, s.S, s.X = api.SLet, l.Y.S, l.X
	default:
		s.Op, s.How, s.X, s.Y = api.SHold, l.Op, l.X, l.Y
	}
	return s
}

// names tells whether a variable stands in a term.
func names(t api.Term, name string) bool {
	return t.Op == api.OVar && t.S == name || slices.ContainsFunc(t.L, func(u api.Term) bool { return names(u, name) })
}

func queryByWords(p api.Prog, k int) api.Query {
	r := p.Rules[k]
	q := api.Query{Out: r.Head.L, Delta: -1}
	q.Rel, _ = dtype.Find(p.Decls, r.Head.Rel)
	order, _ := dsafe.Order(r)
	for n, place := range order {
		bound, _ := dsafe.Bound(r, n)
		q.Steps = append(q.Steps, stepByWords(p.Decls, r.Body[place], bound))
	}
	return q
}

// P11.1
func TestOfByWords(t *testing.T) {
	rng := rand.New(rand.NewSource(11))
	met := map[string]int{}
	for range 8000 {
		p := aProgram(t, rng, 2)
		for k := range p.Rules {
			q, e := query.Of(p, k)
			if want := text(queryByWords(p, k)); text(q) != want || e != api.OK {
				t.Fatalf("%srule %d: %s, %d, not %s", shown(p), k, text(q), e, want)
			}
			for _, s := range q.Steps {
				kind, _, _ := strings.Cut(step(s), " ")
				met[kind]++
				met[kind+" with equal columns"] += len(s.EqCols)
				met[kind+" with columns given"] += len(s.BindCols)
				met[kind+" with columns looked up"] += len(s.Cols)
				met[kind+" with a name"] += len(s.S)
			}
		}
	}
	for _, kind := range strings.Split("scan none fold", " ") {
		for _, with := range strings.Split(" with equal columns, with columns given, with columns looked up, with a name", ",") {
			if isNever := kind == "none" && !strings.Contains(with, "looked") || kind == "scan" && strings.Contains(with, "name"); isNever == (met[kind+with] >= 50) {
				t.Errorf("%s%s: %d", kind, with, met[kind+with])
			}
		}
	}
	if met["hold"] < 500 || met["let"] < 500 {
		t.Errorf("%v", met)
	}
}

// What follows is what the document says of rules' rows, on lists of all
// values of variables that there are behind each part.

type vals map[string]api.Val

func (v vals) with(name string, val api.Val) vals {
	w := maps.Clone(v)
	w[name] = val
	return w
}

func (v vals) of(t api.Term) api.Val {
	if t.Op == api.OVar {
		return v[t.S]
	}
	if len(t.L) == 0 {
		return api.Val{Sym: t.Op == api.OSym, N: t.N, S: t.S}
	}
	a, b := v.of(t.L[0]).N, v.of(t.L[1]).N
	return num(map[int]int64{api.OAdd: a + b, api.OSub: a - b, api.OMul: a * b}[t.Op])
}

// meet is v with what a step's columns give, or nil.
func (v vals) meet(s api.Step, r []api.Val) vals {
	w := v
	for i, c := range s.BindCols {
		w = w.with(s.Binds[i], r[c])
	}
	for i, c := range s.EqCols {
		if w[s.Eqs[i]] != r[c] {
			return nil
		}
	}
	for i, c := range s.Cols {
		if v.of(s.Terms[i]) != r[c] {
			return nil
		}
	}
	return w
}

func (v vals) meetings(s api.Step, l [][]api.Val) []vals {
	var all []vals
	for _, r := range l {
		if w := v.meet(s, r); w != nil {
			all = append(all, w)
		}
	}
	return all
}

// comesTo is what a step SFold does, or none.
func (v vals) comesTo(s api.Step, l [][]api.Val) []api.Val {
	var ys []int64
	sum := int64(0)
	for _, w := range v.meetings(s, l) {
		ys = append(ys, w.of(s.Y).N)
		sum += ys[len(ys)-1]
	}
	switch {
	case s.How == api.LCount:
		return []api.Val{num(int64(len(ys)))}
	case s.How == api.LSum:
		return []api.Val{num(sum)}
	case len(ys) == 0:
		return nil
	case s.How == api.LMin:
		return []api.Val{num(slices.Min(ys))}
	}
	return []api.Val{num(slices.Max(ys))}
}

func (v vals) isHeld(s api.Step) bool {
	c := rel.Compare([]api.Val{v.of(s.X)}, []api.Val{v.of(s.Y)})
	return s.How == api.LEq && c == 0 || s.How == api.LNe && c != 0 || s.How == api.LLt && c < 0 || s.How == api.LLe && c <= 0
}

// goOn are all values with which a step goes on.
func (v vals) goOn(s api.Step, l [][]api.Val) []vals {
	switch s.Op {
	case api.SScan:
		return v.meetings(s, l)
	case api.SLet:
		return []vals{v.with(s.S, v.of(s.X))}
	case api.SFold:
		got := v.comesTo(s, l)
		if len(got) == 1 && s.S != "" {
			return []vals{v.with(s.S, got[0])}
		}
		if len(got) == 0 || v.of(s.X) != got[0] {
			return nil
		}
	case api.SNone:
		if len(v.meetings(s, l)) > 0 {
			return nil
		}
	case api.SHold:
		if !v.isHeld(s) {
			return nil
		}
	}
	return []vals{v}
}

// runByWords are the rows that come of the steps.
func runByWords(q api.Query, in [][][]api.Val, delta [][]api.Val) [][]api.Val {
	behind := []vals{{}}
	for k, s := range q.Steps {
		l := in[s.Rel]
		if k == q.Delta {
			l = delta
		}
		var next []vals
		for _, v := range behind {
			next = append(next, v.goOn(s, l)...)
		}
		behind = next
	}
	var given [][]api.Val
	for _, v := range behind {
		var r []api.Val
		for _, t := range q.Out {
			r = append(r, v.of(t))
		}
		given = append(given, r)
	}
	return rel.Sort(given)
}

// P11.2, P11.3: a query gives what its rule gives.
func TestRunIsWhatTheRuleGives(t *testing.T) {
	rng := rand.New(rand.NewSource(112))
	met, many := map[int]int{}, 0
	for range 7000 {
		p := aProgram(t, rng, 2)
		in := someRows(rng, p)
		for k := range p.Rules {
			q := of(t, p, k)
			want, _ := model.Fire(p, k, in)
			got, e := query.Run(p, q, in, nil)
			if !same(got, want) || !same(got, runByWords(q, in, nil)) || !rel.Rise(got) || e != api.OK {
				t.Fatalf("%s%v: rule %d gives %v, its query %v, %d, by words %v", shown(p), in, k, want, got, e, runByWords(q, in, nil))
			}
			if len(want) > 0 {
				many++
				for _, s := range q.Steps {
					met[s.Op]++
				}
			}
		}
	}
	for op := api.SScan; op <= api.SFold; op++ {
		if met[op] < 200 {
			t.Errorf("steps that are %d: %d", op, met[op])
		}
	}
	if many < 1000 {
		t.Errorf("%d that give something", many)
	}
}

// withAnother is a program of one more relation, of that of a part's types,
// that stands in that part instead of its own.
func withAnother(p api.Prog, k, part int) api.Prog {
	r := p.Rules[k]
	at, _ := dtype.Find(p.Decls, r.Body[part].A.Rel)
	d := p.Decls[at]
	d.Rel = "another"
	r.Body = slices.Clone(r.Body)
	r.Body[part].A.Rel = d.Rel
	rules := slices.Clone(p.Rules)
	rules[k] = r
	return api.Prog{Decls: append(slices.Clone(p.Decls), d), Rules: rules}
}

// P11.2: with a Delta the query gives what the rule gives if that part is of
// another relation, whose rows are the new ones, be they of in's or not.
func TestRunOnWhatIsNewByWords(t *testing.T) {
	rng := rand.New(rand.NewSource(113))
	some, unlike := 0, 0
	for range 3000 {
		p := aProgram(t, rng, 2)
		in := someRows(rng, p)
		for k, r := range p.Rules {
			q := of(t, p, k)
			order, _ := dsafe.Order(r)
			whole, _ := query.Run(p, q, in, nil)
			for n, s := range q.Steps {
				if s.Op != api.SScan {
					continue
				}
				q.Delta = n
				delta := someRowsOf(rng, p.Decls[s.Rel], 5)
				want, _ := model.Fire(withAnother(p, k, order[n]), k, append(slices.Clone(in), delta))
				got, e := query.Run(p, q, in, delta)
				if !same(got, want) || !same(got, runByWords(q, in, delta)) || e != api.OK {
					t.Fatalf("%s%v: rule %d, step %d on %v: %v, %d, not %v", shown(p), in, k, n, delta, got, e, want)
				}
				some += min(len(want), 1)
				if !same(want, whole) {
					unlike++
				}
			}
		}
	}
	if some < 500 || unlike < 500 {
		t.Errorf("%d that give something, %d something else", some, unlike)
	}
}

// P11.3: what queries give on parts of a relation's rows is, laid together,
// what they give on all of them.
func TestParts(t *testing.T) {
	rng := rand.New(rand.NewSource(114))
	some := 0
	for range 3000 {
		p := aProgram(t, rng, 1)
		in, q := someRows(rng, p), of(t, p, 0)
		want, _ := query.Run(p, q, in, nil)
		for n, s := range q.Steps {
			if s.Op != api.SScan {
				continue
			}
			q.Delta = n
			parts := make([][][]api.Val, 3)
			for _, r := range in[s.Rel] {
				first, second := rng.Intn(3), rng.Intn(3)
				parts[first] = append(parts[first], r)
				if second != first {
					parts[second] = append(parts[second], r)
				}
			}
			var got [][]api.Val
			for _, part := range parts {
				of, e := query.Run(p, q, in, part)
				if e != api.OK {
					t.Fatalf("%s%v, step %d: %d", shown(p), in, n, e)
				}
				got, _ = rel.Union(got, of)
			}
			if !same(got, want) {
				t.Fatalf("%s%v, step %d: on parts %v, on all %v", shown(p), in, n, got, want)
			}
			if whole, _ := query.Run(p, q, in, in[s.Rel]); !same(whole, want) {
				t.Fatalf("%s%v, step %d: on all of its rows %v, not %v", shown(p), in, n, whole, want)
			}
			some += min(len(want), 1)
		}
	}
	if some < 500 {
		t.Errorf("%d that give something", some)
	}
}

// R4
func TestAnswersAreTheSameAgain(t *testing.T) {
	rng := rand.New(rand.NewSource(115))
	for range 500 {
		p := aProgram(t, rng, 3)
		in := someRows(rng, p)
		for k := range p.Rules {
			q := of(t, p, k)
			want, _ := query.Run(p, q, in, nil)
			for range 3 {
				if got, _ := query.Run(p, q, in, nil); !same(got, want) || text(of(t, p, k)) != text(q) {
					t.Fatalf("%s%v: rule %d: %v, again %v", shown(p), in, k, want, got)
				}
			}
		}
	}
}
