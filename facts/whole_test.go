package facts_test

import (
	"errors"
	"fmt"
	"math/rand"
	"regexp"
	"slices"
	"strconv"
	"strings"
	"testing"

	"sorites/api"
	"sorites/facts"
	"sorites/model"
	"sorites/rel"
	"sorites/text"
)

// What is made here are programs of relations, rows of them, and streams, by
// chance, some of them with some bytes changed.

func one[T any](rng *rand.Rand, l ...T) T { return l[rng.Intn(len(l))] }

func aProgram(rng *rand.Rand) api.Prog {
	var p api.Prog
	for range rng.Intn(5) {
		d := api.Decl{Rel: one(rng, "a", "b", "ab", "a1"), In: rng.Intn(3) > 0, Out: rng.Intn(3) > 0}
		for range 1 + rng.Intn(3) {
			d.Names, d.Types = append(d.Names, "x"), append(d.Types, 1+rng.Intn(2))
		}
		p.Decls = append(p.Decls, d)
	}
	return p
}

func aRow(rng *rand.Rand, d api.Decl) []api.Val {
	var row []api.Val
	for _, kind := range d.Types {
		if kind == api.TNum {
			row = append(row, num(one[int64](rng, -1<<63, -10, -9, 0, 1, 9, 10, 1<<63-1)))
		} else {
			row = append(row, sym(one(rng, "", "a", "b", "ab", "\t", "\n", "\"", `\`, "1", "\xff", "a\tb\nc")))
		}
	}
	return row
}

func someRows(rng *rand.Rand, p api.Prog) [][][]api.Val {
	var all [][][]api.Val
	for _, d := range p.Decls {
		var l [][]api.Val
		for range rng.Intn(6) {
			l = append(l, aRow(rng, d))
		}
		all = append(all, rel.Sort(l))
	}
	return all
}

func aStream(rng *rand.Rand, p api.Prog) string {
	var b strings.Builder
	for range rng.Intn(6) {
		if len(p.Decls) == 0 {
			break
		}
		d := one(rng, p.Decls...)
		b.WriteString(d.Rel)
		for _, v := range aRow(rng, d) {
			b.WriteString("\t" + signs(v))
		}
		b.WriteString("\n")
	}
	return b.String()
}

// spoilt has some bytes put in, left out, or changed.
func spoilt(rng *rand.Rand, s string) string {
	for range rng.Intn(3) {
		at := rng.Intn(len(s) + 1)
		end := min(len(s), at+rng.Intn(3))
		s = s[:at] + one(rng, "", "\t", "\n", "\"", "a", "1", "0", "-", `\`, " ", "\t1", "\t\"\"", "a\t1\n") + s[end:]
	}
	return s
}

// What follows is what the document says, by forms of whole lines.

func signs(v api.Val) string {
	if !v.Sym {
		return fmt.Sprint(v.N)
	}
	s := `"`
	for _, c := range []byte(v.S) {
		switch {
		case c == '\n':
			s += `\n`
		case c == '"' || c == '\\':
			s += `\` + string(rune(c))
		case c < 0x20 || c > 0x7e:
			s += fmt.Sprintf(`\x%02x`, c)
		default:
			s += string(rune(c))
		}
	}
	return s + `"`
}

var (
	aLine    = regexp.MustCompile(`^([^\t\n]*)((?:\t[^\t\n]*)*)\n$`)
	aNumber  = regexp.MustCompile(`^(0|-?[1-9][0-9]*)$`)
	aSymbol  = regexp.MustCompile(`^"([ !#-\[\]-~]|\\["\\n]|\\x(0[0-9b-f]|1[0-9a-f]|7f|[89a-f][0-9a-f]))*"$`)
	anEscape = regexp.MustCompile(`\\x..|\\.`)
)

func isNumber(s string) bool {
	_, err := strconv.ParseInt(s, 10, 64)
	return aNumber.MatchString(s) && !errors.Is(err, strconv.ErrRange)
}

// said is the value of a text of the form.
func said(s string) api.Val {
	if n, err := strconv.ParseInt(s, 10, 64); err == nil {
		return num(n)
	}
	return sym(anEscape.ReplaceAllStringFunc(s[1:len(s)-1], func(sign string) string {
		switch sign[1] {
		case 'n':
			return "\n"
		case 'x':
			n, _ := strconv.ParseUint(sign[2:], 16, 8)
			return string([]byte{byte(n)})
		}
		return sign[1:]
	}))
}

// wrongIn is what is wrong with a line, and its relation's place and row, if
// nothing is.
func wrongIn(p api.Prog, line string) (int, []api.Val, api.Errno) {
	m := aLine.FindStringSubmatch(line)
	if m == nil {
		return 0, nil, api.ErrFactEnd
	}
	k := slices.IndexFunc(p.Decls, func(d api.Decl) bool { return d.Rel == m[1] })
	if k < 0 || !p.Decls[k].In {
		return 0, nil, api.ErrFactRel
	}
	texts := strings.Split(m[2], "\t")[1:]
	if m[2] == "" || len(texts) != len(p.Decls[k].Types) {
		return 0, nil, api.ErrFactCols
	}
	var row []api.Val
	for c, s := range texts {
		switch kind := p.Decls[k].Types[c]; {
		case kind == api.TNum && !isNumber(s):
			return 0, nil, api.ErrFactNum
		case kind == api.TSym && !aSymbol.MatchString(s):
			return 0, nil, api.ErrFactSym
		}
		row = append(row, said(s))
	}
	return k, row, api.OK
}

func readOf(p api.Prog, s string) ([][][]api.Val, int, api.Errno) {
	all := make([][][]api.Val, len(p.Decls))
	for i, line := range strings.SplitAfter(s, "\n") {
		if line == "" {
			break
		}
		k, row, e := wrongIn(p, line)
		if e != api.OK {
			return nil, i + 1, e
		}
		all[k], _, _ = rel.Add(all[k], row)
	}
	return all, 0, api.OK
}

// P10.1
func TestStreamsMadeByChance(t *testing.T) {
	rng := rand.New(rand.NewSource(10))
	met := map[api.Errno]int{}
	for range 40000 {
		p := aProgram(rng)
		s := spoilt(rng, aStream(rng, p))
		want, line, e := readOf(p, s)
		if got, gotLine, gotErr := facts.Read(p, s); !allSame(got, want) || gotLine != line || gotErr != e {
			t.Fatalf("%v, %q: %v, %d, %d, not %v, %d, %d", p.Decls, s, got, gotLine, gotErr, want, line, e)
		}
		met[e]++
	}
	for _, e := range []api.Errno{api.OK, api.ErrFactEnd, api.ErrFactRel, api.ErrFactCols, api.ErrFactNum, api.ErrFactSym} {
		if met[e] < 500 {
			t.Errorf("%d was met but %d times", e, met[e])
		}
	}
}

// P10.2: rows made by chance, some of them of another relation.
func TestTellingByChance(t *testing.T) {
	rng := rand.New(rand.NewSource(102))
	told := 0
	for range 20000 {
		p := aProgram(rng)
		all := someRows(rng, p)
		if len(all) > 1 && rng.Intn(4) == 0 {
			all[rng.Intn(len(all))] = all[rng.Intn(len(all))]
		}
		want, wantErr := "", api.OK
		for k, l := range all {
			for _, row := range l {
				s, e := facts.Line(p.Decls[k], row)
				if e == api.OK && s != lineOf(p.Decls[k], row) {
					t.Fatalf("%v, %v: %q", p.Decls[k], row, s)
				}
				if p.Decls[k].Out {
					want += lineOf(p.Decls[k], row)
				}
			}
		}
		if !model.Fits(p, all) {
			want, wantErr = "", api.ErrFacts
		}
		if s, e := facts.Tell(p, all); s != want || e != wantErr {
			t.Fatalf("%v, %v: %q, %d, not %q, %d", p.Decls, all, s, e, want, wantErr)
		}
		told += len(want)
	}
	if told < 100000 {
		t.Errorf("but %d bytes were told", told)
	}
}

func lineOf(d api.Decl, row []api.Val) string {
	s := d.Rel
	for _, v := range row {
		s += "\t" + signs(v)
	}
	return s + "\n"
}

// P10.3: what is told is read as it was, in whichever order, and twice.
func TestWhatIsToldIsReadAsItWas(t *testing.T) {
	rng := rand.New(rand.NewSource(103))
	for range 10000 {
		p := aProgram(rng)
		for i := range p.Decls {
			p.Decls[i].Rel += strconv.Itoa(i)
			p.Decls[i].In = p.Decls[i].Out
		}
		all := someRows(rng, p)
		for i, d := range p.Decls {
			if !d.Out {
				all[i] = nil
			}
		}
		s, e := facts.Tell(p, all)
		if e != api.OK {
			t.Fatal(p, all, e)
		}
		lines := strings.SplitAfter(s, "\n")
		for _, l := range append([]string{}, lines...) {
			if rng.Intn(3) == 0 {
				lines = append(lines, l)
			}
		}
		rng.Shuffle(len(lines), func(i, k int) { lines[i], lines[k] = lines[k], lines[i] })
		for _, stream := range []string{s, s + s, strings.Join(lines, "")} {
			if got, line, e := facts.Read(p, stream); !allSame(got, all) || line != 0 || e != api.OK {
				t.Fatalf("%v, %q: %v, %d, %d, not %v", p.Decls, stream, got, line, e, all)
			}
		}
	}
}

// P10.3: each byte a symbol can have.
func TestSymbolsOfAllBytesAreReadAsTheyWere(t *testing.T) {
	p := program(t, mixed)
	var l [][]api.Val
	for i := range 256 {
		for k := range 256 {
			l = append(l, []api.Val{sym(string([]byte{byte(i), byte(k)}))})
		}
	}
	s, e := facts.Tell(p, lists(named{"s": l}))
	if e != api.OK || strings.Count(s, "\n") != len(l) || strings.Count(s, "\t") != len(l) {
		t.Fatal(e)
	}
	checkRead(t, p, s, lists(named{"s": l}))
	if want := "s\t" + text.Quote("\x00\x00") + "\n"; !strings.HasPrefix(s, want) {
		t.Errorf("%.20q", s)
	}
}

// handed is a program and its rows, each list with spare room.
func handed(t *testing.T) (api.Prog, [][][]api.Val) {
	p := program(t, mixed)
	for i := range p.Decls {
		d := &p.Decls[i]
		d.Names = append(d.Names, "spare")[:len(d.Names)]
		d.Types = append(d.Types, -77)[:len(d.Types)]
	}
	p.Decls = append(p.Decls, api.Decl{Rel: "spare"})[:len(p.Decls)]
	p.Rules = append(p.Rules, api.Rule{Line: -77})[:len(p.Rules)]
	all := lists(named{"n": nums(1, 2, 3), "s": syms("a", "b"), "e": {{num(1), sym("a")}, {num(2), sym("b")}}, "none": nums(5), "out": nums(6)})
	for i, l := range all {
		for k, row := range l {
			l[k] = append(slices.Clone(row), sym("spare"))[:len(row)]
		}
		all[i] = append(l, []api.Val{sym("spare")})[:len(l)]
	}
	return p, append(all, [][]api.Val{{sym("spare")}})[:len(all)]
}

// withSpare is all that handed made, told as a text.
func withSpare(p api.Prog, all [][][]api.Val) string {
	s := fmt.Sprint(p.Decls[:len(p.Decls)+1], p.Rules[:len(p.Rules)+1])
	for _, d := range p.Decls {
		s += fmt.Sprint(d.Names[:len(d.Names)+1], d.Types[:len(d.Types)+1])
	}
	for _, l := range all[:len(all)+1] {
		s += fmt.Sprint(l[:cap(l)])
		for _, row := range l {
			s += fmt.Sprint(row[:cap(row)])
		}
	}
	return s
}

// R3
func TestWhatIsHandedInIsLeftAsItIs(t *testing.T) {
	p, all := handed(t)
	was := withSpare(p, all)
	s, _ := facts.Tell(p, all)
	facts.Tell(p, all[:3])
	facts.Read(p, strings.ReplaceAll(s, "out\t6\n", ""))
	facts.Read(p, s)
	facts.Read(p, "n\t2\nn\t1\nn")
	facts.Line(p.Decls[0], all[0][0])
	facts.Line(p.Decls[0], all[1][0])
	if got := withSpare(p, all); got != was {
		t.Errorf("%s became %s", was, got)
	}
}

func fill(l []api.Val) {
	for k := range l[:cap(l)] {
		l[:cap(l)][k] = sym("written")
	}
}

const someLines = "n\t3\nn\t1\ns\t\"b\"\nn\t1\ne\t2\t\"b\"\nn\t2\ns\t\"a\"\ne\t1\t\"a\"\ne\t2\t\"a\"\nn\t1\n"

// R3: each list may be written into, and its spare room, and nothing else is
// another one by that, be it ahead or behind.
func TestAnswersAreNewMemory(t *testing.T) {
	p := program(t, mixed)
	read := func() [][][]api.Val {
		all, _, e := facts.Read(p, someLines)
		if e != api.OK || len(all) != 6 {
			t.Fatal(all, e)
		}
		return all
	}
	forth, back, want := read(), read(), read()
	for i := range want {
		k := len(want) - 1 - i
		if !same(forth[i], want[i]) || !same(back[k], want[k]) {
			t.Fatalf("%d: %v, %v, not %v", i, forth[i], back[k], want)
		}
		for j := range want[i] {
			if !same(forth[i][j:], want[i][j:]) {
				t.Fatalf("%d: %v, not %v", i, forth[i][j:], want[i][j:])
			}
			fill(forth[i][j])
		}
		for j := range slices.Backward(want[k]) {
			if !same(back[k][:j+1], want[k][:j+1]) {
				t.Fatalf("%d: %v, not %v", k, back[k][:j+1], want[k][:j+1])
			}
			fill(back[k][j])
		}
		for _, l := range [][][]api.Val{forth[i], back[k]} {
			for j := range l[:cap(l)] {
				l[:cap(l)][j] = nums(7)[0]
			}
		}
	}
	if again := read(); !allSame(again, want) {
		t.Errorf("%v, again %v", want, again)
	}
}

// R3: nil and empty lists are one.
func TestNilAndEmptyListsAreOne(t *testing.T) {
	p := program(t, mixed)
	for _, empty := range [][][]api.Val{nil, {}} {
		all := slices.Repeat([][][]api.Val{empty}, 6)
		if s, e := facts.Tell(p, all); s != "" || e != api.OK {
			t.Errorf("%q, %d", s, e)
		}
	}
	p.Rules = []api.Rule{}
	checkRead(t, p, "", lists(nil))
	checkRead(t, api.Prog{Decls: []api.Decl{}, Rules: []api.Rule{}}, "", nil)
}
