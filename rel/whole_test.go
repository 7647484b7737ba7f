package rel_test

import (
	"bytes"
	"encoding/binary"
	"maps"
	"math/rand"
	"slices"
	"strings"
	"testing"

	"sorites/api"
	"sorites/rel"
)

// What is made here are rows, by chance, of few values.

func aValue(rng *rand.Rand) api.Val {
	if rng.Intn(2) == 0 {
		return num([]int64{-1 << 63, -1, 0, 1, 1<<63 - 1}[rng.Intn(5)])
	}
	return sym([]string{"", "\x00", "a", "ab", "\xff"}[rng.Intn(5)])
}

func aRow(rng *rand.Rand) []api.Val {
	var l []api.Val
	for range rng.Intn(3) {
		l = append(l, aValue(rng))
	}
	return l
}

func someRows(rng *rand.Rand) [][]api.Val {
	var l [][]api.Val
	for range rng.Intn(30) {
		l = append(l, aRow(rng))
	}
	return l
}

// What follows is what the document says, on sets of keys: the order of rows
// is that of their keys' bytes, and each key has one row.

func keyOf(r []api.Val) string {
	var b bytes.Buffer
	for _, v := range r {
		if v.Sym {
			b.WriteString("\x02" + strings.ReplaceAll(v.S, "\x00", "\x00\x01") + "\x00\x00")
			continue
		}
		b.WriteByte(1)
		b.Write(binary.BigEndian.AppendUint64(nil, uint64(v.N)^1<<63))
	}
	return b.String()
}

type set map[string][]api.Val

func setOf(l [][]api.Val) set {
	s := set{}
	for _, r := range l {
		s[keyOf(r)] = r
	}
	return s
}

func (s set) rows() [][]api.Val {
	var l [][]api.Val
	for _, key := range slices.Sorted(maps.Keys(s)) {
		l = append(l, s[key])
	}
	return l
}

// P8.1, P8.4
func TestOrderOfRowsMadeByChance(t *testing.T) {
	rng := rand.New(rand.NewSource(8))
	for range 5000 {
		a, b := aRow(rng), aRow(rng)
		if got := rel.Compare(a, b); got != strings.Compare(keyOf(a), keyOf(b)) {
			t.Fatalf("%v, %v: %d", a, b, got)
		}
		l := someRows(rng)
		sorted := rel.Sort(l)
		if !sameRows(sorted, setOf(l).rows()) || !rel.Rise(sorted) || !sameRows(rel.Sort(sorted), sorted) {
			t.Fatalf("%v: %v", l, sorted)
		}
		if rel.Rise(l) != sameRows(l, sorted) {
			t.Fatalf("%v: %v", l, rel.Rise(l))
		}
	}
}

// P8.2, P8.4
func TestSetsOfRowsMadeByChance(t *testing.T) {
	rng := rand.New(rand.NewSource(82))
	for range 5000 {
		a, b, r := rel.Sort(someRows(rng)), rel.Sort(someRows(rng)), aRow(rng)
		_, isThere := setOf(a)[keyOf(r)]
		if has, e := rel.Has(a, r); has != isThere || e != api.OK {
			t.Fatalf("%v has %v: %v, %d", a, r, has, e)
		}
		if got, isNew, e := rel.Add(a, r); !sameRows(got, setOf(append(slices.Clone(a), r)).rows()) || isNew == isThere || e != api.OK {
			t.Fatalf("%v, %v: %v, %v, %d", a, r, got, isNew, e)
		}
		if got, e := rel.Union(a, b); !sameRows(got, setOf(slices.Concat(a, b)).rows()) || e != api.OK {
			t.Fatalf("%v and %v: %v, %d", a, b, got, e)
		}
		left := setOf(a)
		for key := range setOf(b) {
			delete(left, key)
		}
		if got, e := rel.Minus(a, b); !sameRows(got, left.rows()) || e != api.OK {
			t.Fatalf("%v without %v: %v, %d", a, b, got, e)
		}
	}
}

// P8.3
func TestMatchOfRowsMadeByChance(t *testing.T) {
	rng := rand.New(rand.NewSource(83))
	for range 5000 {
		l, vals := someRows(rng), aRow(rng)
		var cols []int
		for range rng.Intn(3) {
			cols = append(cols, rng.Intn(4)-1)
		}
		var want [][]api.Val
		for _, r := range l {
			if hasAll(r, cols, vals) {
				want = append(want, r)
			}
		}
		if got := rel.Match(l, cols, vals); !sameRows(got, want) {
			t.Fatalf("%v, %v, %v: %v", l, cols, vals, got)
		}
	}
}

func hasAll(r []api.Val, cols []int, vals []api.Val) bool {
	for i := 0; i < len(cols) && i < len(vals); i++ {
		if !slices.Contains(placesOf(r, vals[i]), cols[i]) {
			return false
		}
	}
	return true
}

func placesOf(r []api.Val, v api.Val) []int {
	var l []int
	for k := range r {
		if r[k] == v {
			l = append(l, k)
		}
	}
	return l
}

// answers are all lists of rows that calls answer to two that rise.
func answers(a, b [][]api.Val, r []api.Val, cols []int, vals []api.Val) map[string][][]api.Val {
	added, _, _ := rel.Add(a, r)
	both, _ := rel.Union(a, b)
	left, _ := rel.Minus(a, b)
	return map[string][][]api.Val{
		"Sort": rel.Sort(slices.Concat(b, a)), "Add": added, "Union": both, "Minus": left, "Match": rel.Match(a, cols, vals),
	}
}

// handed are two lists that rise, a row, columns, values, each with spare room.
type handed struct {
	a, b    [][]api.Val
	r, vals []api.Val
	cols    []int
}

func newHanded() handed {
	h := handed{rising(), rising()[20:], row("new", 1), row(0), []int{0}}
	for _, l := range []*[][]api.Val{&h.a, &h.b} {
		for i, r := range *l {
			(*l)[i] = append(slices.Clone(r), sym("spare"))[:len(r)]
		}
		*l = append(*l, row("spare"))[:len(*l)]
	}
	h.r = append(h.r, sym("spare"))[:len(h.r)]
	h.vals = append(h.vals, sym("spare"))[:len(h.vals)]
	h.cols = append(h.cols, -77)[:len(h.cols)]
	return h
}

// isLeft tells whether all is as newHanded made it, and the spare room.
func (h handed) isLeft() bool {
	was := newHanded()
	more := func(l [][]api.Val) [][]api.Val {
		var all [][]api.Val
		for _, r := range l {
			all = append(all, r[:len(r)+1])
		}
		return append(all, l[:len(l)+1][len(l)])
	}
	return sameRows(more(h.a), more(was.a)) && sameRows(more(h.b), more(was.b)) &&
		slices.Equal(h.r[:len(h.r)+1], was.r[:len(was.r)+1]) && slices.Equal(h.vals[:len(h.vals)+1], was.vals[:len(was.vals)+1]) &&
		slices.Equal(h.cols[:len(h.cols)+1], was.cols[:len(was.cols)+1])
}

func (h handed) answers() map[string][][]api.Val { return answers(h.a, h.b, h.r, h.cols, h.vals) }

func fill(l []api.Val) {
	for k := range l[:cap(l)] {
		l[:cap(l)][k] = sym("written")
	}
}

// R3
func TestWhatIsHandedInIsLeftAsItIs(t *testing.T) {
	h := newHanded()
	h.answers()
	rel.Compare(h.a[3], h.b[3])
	rel.Rise(h.a)
	rel.Has(h.a, h.r)
	if !h.isLeft() {
		t.Error("the calls wrote into what was handed in")
	}
}

// R3: each list may be written into, and its spare room, and nothing else is
// another one by that, be it ahead or behind.
func TestAnswersAreNewMemory(t *testing.T) {
	for name := range newHanded().answers() {
		h := newHanded()
		forth, back, want := h.answers()[name], h.answers()[name], newHanded().answers()[name]
		if len(want) < 2 {
			t.Fatalf("%s: %d rows are too few to tell", name, len(want))
		}
		for i := range want {
			k := len(want) - 1 - i
			if !sameRows(forth[i:], want[i:]) || !sameRows(back[:k+1], want[:k+1]) {
				t.Fatalf("%s: %v, %v, not %v", name, forth[i:], back[:k+1], want)
			}
			fill(forth[i])
			fill(back[k])
		}
		for _, l := range [][][]api.Val{forth, back} {
			for i := range l[:cap(l)] {
				l[:cap(l)][i] = row("written")
			}
		}
		if !h.isLeft() {
			t.Errorf("%s: what was handed in was written into", name)
		}
	}
}

// R3: and the other way round: what is handed in may be written into later on.
func TestNothingIsKept(t *testing.T) {
	h := newHanded()
	got := h.answers()
	for _, l := range [][][]api.Val{h.a, h.b, {h.r}, {h.vals}} {
		for i := range l {
			fill(l[i])
			l[i] = row("written")
		}
	}
	for name, want := range newHanded().answers() {
		if !sameRows(got[name], want) {
			t.Errorf("%s: %v, not %v", name, got[name], want)
		}
	}
}
