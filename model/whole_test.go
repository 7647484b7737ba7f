package model_test

import (
	"maps"
	"math/rand"
	"slices"
	"strconv"
	"strings"
	"testing"

	"sorites/api"
	"sorites/dgraph"
	"sorites/dsafe"
	"sorites/dtree"
	"sorites/dtype"
	"sorites/model"
	"sorites/rel"
)

// What is made here are programs by chance, typed, safe and layered, of these
// relations, and rows of few values.

const decls = `.decl a(x: number)
.decl b(x: number, y: number)
.decl c(x: symbol, y: number)
.decl d(x: symbol)
.decl f(x: number)
.decl g(x: number, y: symbol, z: number)
`

func one(rng *rand.Rand, l ...string) string { return l[rng.Intn(len(l))] }

func aNumber(rng *rand.Rand) string {
	return one(rng, "x", "x", "y", "y", "z", "w", "0", "1", "2", "-1")
}

func aSymbol(rng *rand.Rand) string { return one(rng, "u", "u", "v", `"a"`, `"b"`, `""`) }

func aSum(rng *rand.Rand) string {
	if rng.Intn(3) > 0 {
		return aNumber(rng)
	}
	return "(" + aNumber(rng) + one(rng, " + ", " - ", " * ") + aNumber(rng) + ")"
}

// anAtom has sums, and `_`, but in heads.
func anAtom(rng *rand.Rand, isHead bool) string {
	name := one(rng, "a", "b", "b", "c", "d", "f", "g")
	var args []string
	for _, kind := range map[string]string{"a": "n", "b": "nn", "c": "sn", "d": "s", "f": "n", "g": "nsn"}[name] {
		arg := aSymbol(rng)
		switch {
		case !isHead && rng.Intn(6) == 0:
			arg = "_"
		case kind == 'n' && isHead:
			arg = aNumber(rng)
		case kind == 'n':
			arg = aSum(rng)
		}
		args = append(args, arg)
	}
	return name + "(" + strings.Join(args, ", ") + ")"
}

func aPart(rng *rand.Rand) string {
	switch rng.Intn(14) {
	case 0, 1:
		return "!" + anAtom(rng, false)
	case 2:
		return aSum(rng) + one(rng, " < ", " <= ", " != ", " = ") + aSum(rng)
	case 3:
		return one(rng, "x", "y", "z", "w") + " = " + aSum(rng)
	case 4:
		return aSymbol(rng) + one(rng, " < ", " <= ", " != ", " = ") + aSymbol(rng)
	case 5:
		return aNumber(rng) + " = count : { " + anAtom(rng, false) + " }"
	case 6, 7:
		y := one(rng, "x", "y", "z", "w")
		return aNumber(rng) + one(rng, " = sum ", " = min ", " = min ", " = max ", " = max ") + y + " : { " + anAtom(rng, false) + " }"
	}
	return anAtom(rng, false)
}

func aRule(rng *rand.Rand) string {
	var parts []string
	for range 1 + rng.Intn(4) {
		parts = append(parts, aPart(rng))
	}
	return anAtom(rng, true) + " :- " + strings.Join(parts, ", ") + ".\n"
}

// aProgram has at most so many rules, each of them by isFit.
func aProgram(t *testing.T, rng *rand.Rand, most int, isFit func(api.Prog) bool) api.Prog {
	t.Helper()
	p := read(t, decls)
	for n := 1 + rng.Intn(most); len(p.Rules) < n; {
		longer := p
		longer.Rules = append(slices.Clone(p.Rules), read(t, aRule(rng)).Rules...)
		if isFit(longer) {
			p = longer
		}
	}
	return p
}

func isSafe(p api.Prog) bool {
	_, e := dsafe.Check(p)
	return e == api.OK
}

func isLayered(p api.Prog) bool {
	_, _, e := dgraph.Groups(p)
	return e == api.OK
}

func someRows(rng *rand.Rand, p api.Prog) [][][]api.Val {
	var in [][][]api.Val
	for _, d := range p.Decls {
		var l [][]api.Val
		for range rng.Intn(6) {
			var r []api.Val
			for _, kind := range d.Types {
				if kind == api.TNum {
					r = append(r, num(int64(rng.Intn(5)-1)))
				} else {
					r = append(r, sym(one(rng, "", "a", "b", "c")))
				}
			}
			l = append(l, r)
		}
		in = append(in, rel.Sort(l))
	}
	return in
}

func shown(p api.Prog) string {
	s, _ := dtree.Show(p)
	return s
}

// What follows is what the document says, on lists of all values of variables
// that there are behind each part.

type vals map[string]api.Val

func (v vals) with(name string, val api.Val) vals {
	w := maps.Clone(v)
	w[name] = val
	return w
}

func (v vals) of(t api.Term) api.Val {
	if t.Op == api.OVar {
		return v[t.S]
	}
	if len(t.L) == 0 {
		return api.Val{Sym: t.Op == api.OSym, N: t.N, S: t.S}
	}
	a, b := v.of(t.L[0]).N, v.of(t.L[1]).N
	return num(map[int]int64{api.OAdd: a + b, api.OSub: a - b, api.OMul: a * b}[t.Op])
}

func (v vals) has(t api.Term) bool {
	_, is := v[t.S]
	return is || t.Op != api.OVar
}

// meet is v with the values with which a row meets an atom, or nil.
func (v vals) meet(a api.Atom, r []api.Val) vals {
	w := v
	for c, t := range a.L {
		if !w.has(t) {
			w = w.with(t.S, r[c])
		}
	}
	for c, t := range a.L {
		if t.Op != api.OAny && w.of(t) != r[c] {
			return nil
		}
	}
	return w
}

func (v vals) meetings(a api.Atom, l [][]api.Val) []vals {
	var all []vals
	for _, r := range l {
		if w := v.meet(a, r); w != nil {
			all = append(all, w)
		}
	}
	return all
}

// comesTo is what an aggregate does, or none.
func (v vals) comesTo(l api.Lit, rows [][]api.Val) []api.Val {
	var ys []int64
	sum := int64(0)
	for _, w := range v.meetings(l.A, rows) {
		ys = append(ys, w.of(l.Y).N)
		sum += ys[len(ys)-1]
	}
	switch {
	case l.Op == api.LCount:
		return []api.Val{num(int64(len(ys)))}
	case l.Op == api.LSum:
		return []api.Val{num(sum)}
	case len(ys) == 0:
		return nil
	case l.Op == api.LMin:
		return []api.Val{num(slices.Min(ys))}
	}
	return []api.Val{num(slices.Max(ys))}
}

func (v vals) isHeld(op int, x, y api.Val) bool {
	c := rel.Compare([]api.Val{x}, []api.Val{y})
	return op == api.LEq && c == 0 || op == api.LNe && c != 0 || op == api.LLt && c < 0 || op == api.LLe && c <= 0
}

// goOn are all values with which a part goes on.
func (v vals) goOn(l api.Lit, rows [][]api.Val) []vals {
	x, isOne := api.Val{}, true
	switch {
	case l.Op == api.LAtom:
		return v.meetings(l.A, rows)
	case l.Op == api.LNot && len(v.meetings(l.A, rows)) > 0:
		return nil
	case l.Op == api.LNot:
		return []vals{v}
	case l.Op >= api.LCount:
		got := v.comesTo(l, rows)
		if isOne = len(got) == 1; isOne {
			x = got[0]
		}
		if isOne && !v.has(l.X) {
			return []vals{v.with(l.X.S, x)}
		}
		isOne = isOne && v.of(l.X) == x
	case l.Op == api.LEq && !v.has(l.X):
		return []vals{v.with(l.X.S, v.of(l.Y))}
	case l.Op == api.LEq && !v.has(l.Y):
		return []vals{v.with(l.Y.S, v.of(l.X))}
	default:
		isOne = v.isHeld(l.Op, v.of(l.X), v.of(l.Y))
	}
	if !isOne {
		return nil
	}
	return []vals{v}
}

func rowsOf(p api.Prog, name string, in [][][]api.Val) [][]api.Val {
	for k, d := range p.Decls {
		if d.Rel == name {
			return in[k]
		}
	}
	return nil
}

// valuesByWords are all that there are behind the last part.
func valuesByWords(p api.Prog, r api.Rule, in [][][]api.Val) []vals {
	order, _ := dsafe.Order(r)
	all := []vals{{}}
	for _, k := range order {
		var next []vals
		for _, v := range all {
			next = append(next, v.goOn(r.Body[k], rowsOf(p, r.Body[k].A.Rel, in))...)
		}
		all = next
	}
	return all
}

func rowsByWords(r api.Rule, all []vals) [][]api.Val {
	var l [][]api.Val
	for _, v := range all {
		var row []api.Val
		for _, t := range r.Head.L {
			row = append(row, v.of(t))
		}
		l = append(l, row)
	}
	return rel.Sort(l)
}

// evalByWords fires all rules of a group as long as that makes a difference.
func evalByWords(p api.Prog, in [][][]api.Val) [][][]api.Val {
	m := slices.Clone(in)
	groups, _, _ := dgraph.Groups(p)
	for _, group := range groups {
		for isMore := true; isMore; {
			isMore = false
			for _, r := range p.Rules {
				k, _ := dtype.Find(p.Decls, r.Head.Rel)
				if !slices.Contains(group, k) {
					continue
				}
				more, _ := rel.Union(m[k], rowsByWords(r, valuesByWords(p, r, m)))
				isMore = isMore || len(more) > len(m[k])
				m[k] = more
			}
		}
	}
	return m
}

// P9.1
func TestFireByWords(t *testing.T) {
	rng := rand.New(rand.NewSource(9))
	met, many := map[int]int{}, 0
	for range 7000 {
		p := aProgram(t, rng, 2, isSafe)
		in := someRows(rng, p)
		for k, r := range p.Rules {
			want := rowsByWords(r, valuesByWords(p, r, in))
			if got, e := model.Fire(p, k, in); !same(got, want) || e != api.OK {
				t.Fatalf("%s%v: rule %d gives %v, %d, not %v", shown(p), in, k, got, e, want)
			}
			if len(want) > 0 {
				many++
				for _, l := range r.Body {
					met[l.Op]++
				}
			}
		}
	}
	for op := api.LAtom; op <= api.LMax; op++ {
		if met[op] < 20 {
			t.Errorf("parts that are %d: %d", op, met[op])
		}
	}
	if many < 1000 {
		t.Errorf("%d that give something", many)
	}
}

// P9.2
func TestEvalByWords(t *testing.T) {
	rng := rand.New(rand.NewSource(92))
	grown, recursive := 0, 0
	for range 2000 {
		p := aProgram(t, rng, 7, isLayered)
		in := someRows(rng, p)
		want, n := evalByWords(p, in), 0
		for k, l := range want {
			n += len(l)
			grown += len(l) - len(in[k])
		}
		for k := range p.Rules {
			if is, _ := dgraph.Recursive(p, k); is {
				recursive++
			}
		}
		for _, limit := range []int{max(n, 1), api.MaxLimit} {
			if got, e := model.Eval(p, in, limit); !allSame(got, want) || e != api.OK {
				t.Fatalf("%s%v: %v, %d, not %v", shown(p), in, got, e, want)
			}
		}
		if n > 1 {
			if got, e := model.Eval(p, in, n-1); got != nil || e != api.ErrLimit {
				t.Fatalf("%s%v: %v, %d, with no room", shown(p), in, got, e)
			}
		}
	}
	if grown < 2000 || recursive < 400 {
		t.Errorf("%d rows more, %d recursive rules", grown, recursive)
	}
}

// most is beyond what rules of few parts come to here.
const most = 30

// isWithin tells whether all numbers are.
func isWithin(all []vals) bool {
	for _, v := range all {
		for _, val := range v {
			if val.N < -most || val.N > most {
				return false
			}
		}
	}
	return true
}

// eachTrial hands on all ways of giving variables values of their types, but
// leaves those with which a part whose variables have values does not hold.
func eachTrial(p api.Prog, r api.Rule, in [][][]api.Val, v vals, names []string, hand func(vals)) {
	for k, l := range r.Body {
		if isTold(r, k, v) && len(v.goOn(l, rowsOf(p, l.A.Rel, in))) == 0 {
			return
		}
	}
	if len(names) == 0 {
		hand(v)
		return
	}
	all, kinds := dtype.Vars(r), []int{}
	kinds, _ = dtype.Types(p.Decls, r)
	if kinds[slices.Index(all, names[0])] == api.TSym {
		for _, s := range []string{"", "a", "b", "c"} {
			eachTrial(p, r, in, v.with(names[0], sym(s)), names[1:], hand)
		}
		return
	}
	for n := int64(-most); n <= most; n++ {
		eachTrial(p, r, in, v.with(names[0], num(n)), names[1:], hand)
	}
}

// isTold tells whether all variables of a part have values, but an aggregate's
// own.
func isTold(r api.Rule, k int, v vals) bool {
	names := dtype.Vars(api.Rule{Head: api.Atom{Rel: "a", L: []api.Term{{Op: api.OInt}}}, Body: r.Body[k : k+1]})
	if outer, e := dsafe.Outer(r, k); e == api.OK {
		names = outer
		if r.Body[k].X.Op == api.OVar {
			names = append(names, r.Body[k].X.S)
		}
	}
	return !slices.ContainsFunc(names, func(name string) bool { return !v.has(api.Term{Op: api.OVar, S: name}) })
}

// P9.1: what a rule gives are the heads of all values with which all its parts
// hold, in whichever order.
func TestFireIsWhatATrialOfAllValuesFinds(t *testing.T) {
	rng := rand.New(rand.NewSource(91))
	some := 0
	for range 1000 {
		p := aProgram(t, rng, 1, isSafe)
		r, in := p.Rules[0], someRows(rng, p)
		names, _ := dsafe.Bound(r, len(r.Body))
		if len(names) > 3 || !isWithin(valuesByWords(p, r, in)) {
			continue
		}
		var all []vals
		eachTrial(p, r, in, vals{}, names, func(v vals) { all = append(all, v) })
		want := rowsByWords(r, all)
		if got, e := model.Fire(p, 0, in); !same(got, want) || e != api.OK {
			t.Fatalf("%s%v: %v, %d, not %v", shown(p), in, got, e, want)
		}
		if len(want) > 0 {
			some++
		}
	}
	if some < 200 {
		t.Errorf("%d that give something", some)
	}
}

// P9.3
func TestTheModelHoldsItself(t *testing.T) {
	rng := rand.New(rand.NewSource(93))
	for range 1000 {
		p := aProgram(t, rng, 7, isLayered)
		in := someRows(rng, p)
		m, _ := model.Eval(p, in, api.MaxLimit)
		if !model.Fits(p, m) {
			t.Fatalf("%s%v: %v does not fit", shown(p), in, m)
		}
		for k := range in {
			if gone, _ := rel.Minus(in[k], m[k]); len(gone) > 0 {
				t.Fatalf("%s%v: %v has not %v", shown(p), in, m, gone)
			}
		}
		for k, r := range p.Rules {
			given, _ := model.Fire(p, k, m)
			if more, _ := rel.Minus(given, rowsOf(p, r.Head.Rel, m)); len(more) > 0 {
				t.Fatalf("%s%v: of %v rule %d gives %v", shown(p), in, m, k, more)
			}
		}
		if again, e := model.Eval(p, m, api.MaxLimit); !allSame(again, m) || e != api.OK {
			t.Fatalf("%s%v: %v, of itself %v, %d", shown(p), in, m, again, e)
		}
	}
}

func asksForAllRows(p api.Prog) bool {
	return slices.ContainsFunc(p.Rules, func(r api.Rule) bool {
		return slices.ContainsFunc(r.Body, func(l api.Lit) bool { return l.Op == api.LNot || l.Op >= api.LCount })
	})
}

// P9.3
func TestMoreRowsMakeNoFewer(t *testing.T) {
	rng := rand.New(rand.NewSource(94))
	for range 1000 {
		p := aProgram(t, rng, 5, func(p api.Prog) bool { return !asksForAllRows(p) && isLayered(p) })
		few := someRows(rng, p)
		many := slices.Clone(few)
		for k, l := range someRows(rng, p) {
			many[k], _ = rel.Union(few[k], l)
		}
		of, _ := model.Eval(p, few, api.MaxLimit)
		ofMany, _ := model.Eval(p, many, api.MaxLimit)
		for k := range of {
			if gone, _ := rel.Minus(of[k], ofMany[k]); len(gone) > 0 {
				t.Fatalf("%s%v has, %v has not, %v", shown(p), few, many, gone)
			}
		}
	}
}

// P9.2, R4: neither rules in another order nor parts that stay safe in another
// order make a difference, and answers are the same again.
func TestOrdersMakeNoDifference(t *testing.T) {
	rng := rand.New(rand.NewSource(95))
	for range 1000 {
		p := aProgram(t, rng, 6, isLayered)
		in := someRows(rng, p)
		want, _ := model.Eval(p, in, api.MaxLimit)
		other := api.Prog{Decls: p.Decls, Rules: slices.Clone(p.Rules)}
		rng.Shuffle(len(other.Rules), func(i, k int) { other.Rules[i], other.Rules[k] = other.Rules[k], other.Rules[i] })
		for i, r := range other.Rules {
			body := slices.Clone(r.Body)
			rng.Shuffle(len(body), func(i, k int) { body[i], body[k] = body[k], body[i] })
			other.Rules[i].Body = body
		}
		got, e := model.Eval(other, in, api.MaxLimit)
		if e == api.OK && !allSame(got, want) {
			t.Fatalf("%s%v: %v, in another order %v", shown(p), in, want, got)
		}
		if again, _ := model.Eval(p, in, api.MaxLimit); !allSame(again, want) {
			t.Fatalf("%s%v: %v, again %v", shown(p), in, want, again)
		}
	}
}

// handed is a program and its rows, each list with spare room.
func handed(t *testing.T) (api.Prog, [][][]api.Val) {
	t.Helper()
	p := read(t, decls+`b(x, z) :- b(x, y), b(y, z). a(n) :- n = sum x : { b(x, _) }. f(x) :- b(x, y), x + 1 = y, !a(x). d(x) :- c(x, _). g(x, "q", y) :- b(x, y).`)
	p.Rules = append(p.Rules, api.Rule{Line: -7})[:len(p.Rules)]
	for i, r := range p.Rules {
		p.Rules[i].Body = append(r.Body, api.Lit{Op: -7})[:len(r.Body)]
		p.Rules[i].Head.L = append(r.Head.L, api.Term{Op: -7})[:len(r.Head.L)]
	}
	in := all("3", "1 2 | 2 3 | 3 4", "a 1 | b 1", "z", "8 | 9", "0 a 0 | 0 b 0")
	for i := range in {
		for k, r := range in[i] {
			in[i][k] = append(slices.Clone(r), sym("spare"))[:len(r)]
		}
		in[i] = append(in[i], row("spare"))[:len(in[i])]
	}
	return p, append(in, rows("spare"))[:len(in)]
}

// withSpare is all that handed made, told as a text.
func withSpare(p api.Prog, in [][][]api.Val) string {
	var s strings.Builder
	for _, l := range in[:len(in)+1] {
		for _, r := range l[:cap(l)] {
			for _, v := range r[:cap(r)] {
				s.WriteString(strconv.FormatBool(v.Sym) + strconv.FormatInt(v.N, 10) + v.S + " ")
			}
			s.WriteString("| ")
		}
	}
	for _, r := range p.Rules[:len(p.Rules)+1] {
		s.WriteString(strconv.Itoa(r.Line) + ":")
		if len(r.Body) > 0 {
			s.WriteString(strconv.Itoa(r.Body[:len(r.Body)+1][len(r.Body)].Op) + strconv.Itoa(r.Head.L[:len(r.Head.L)+1][len(r.Head.L)].Op))
		}
	}
	return s.String() + shown(p)
}

// answers are all lists of rows that calls answer.
func answers(p api.Prog, in [][][]api.Val) [][][]api.Val {
	l, _ := model.Eval(p, in, 100)
	for k := range p.Rules {
		given, _ := model.Fire(p, k, in)
		l = append(l, given)
	}
	return l
}

// R3
func TestWhatIsHandedInIsLeftAsItIs(t *testing.T) {
	p, in := handed(t)
	was := withSpare(p, in)
	answers(p, in)
	model.Fits(p, in)
	model.Eval(p, in, 5)
	model.Eval(p, in, 0)
	model.Fire(p, 99, in)
	if got := withSpare(p, in); got != was {
		t.Errorf("%s became %s", was, got)
	}
}

func fill(l []api.Val) {
	for k := range l[:cap(l)] {
		l[:cap(l)][k] = sym("written")
	}
}

// R3: each list may be written into, and its spare room, and nothing else is
// another one by that, be it ahead or behind.
func TestAnswersAreNewMemory(t *testing.T) {
	p, in := handed(t)
	was := withSpare(p, in)
	forth, back, want := answers(p, in), answers(p, in), answers(p, in)
	for i := range want {
		k := len(want) - 1 - i
		if !same(forth[i], want[i]) || !same(back[k], want[k]) || len(want[i]) == 0 {
			t.Fatalf("%d: %v, %v, not %v", i, forth[i], back[k], want)
		}
		for j := range want[i] {
			if !same(forth[i][j:], want[i][j:]) {
				t.Fatalf("%d: %v, not %v", i, forth[i][j:], want[i][j:])
			}
			fill(forth[i][j])
		}
		for j := range slices.Backward(want[k]) {
			if !same(back[k][:j+1], want[k][:j+1]) {
				t.Fatalf("%d: %v, not %v", k, back[k][:j+1], want[k][:j+1])
			}
			fill(back[k][j])
		}
		for _, l := range [][][]api.Val{forth[i], back[k]} {
			for j := range l[:cap(l)] {
				l[:cap(l)][j] = row("written")
			}
		}
	}
	if got := withSpare(p, in); got != was {
		t.Errorf("%s became %s", was, got)
	}
}

// R3: and the other way round: what is handed in may be written into later on.
func TestNothingIsKept(t *testing.T) {
	p, in := handed(t)
	got, want := answers(p, in), answers(p, in)
	for i := range in {
		for k := range in[i] {
			fill(in[i][k])
			in[i][k] = nil
		}
	}
	if !allSame(got, want) {
		t.Errorf("%v, not %v", got, want)
	}
	p, in = handed(t)
	if again := answers(p, in); !allSame(again, want) {
		t.Errorf("%v, again %v", want, again)
	}
}
