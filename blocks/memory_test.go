package blocks_test

import (
	"fmt"
	"reflect"
	"strings"
	"testing"

	"sorites/api"
	"sorites/blocks"
)

// piece is the memory of a list, its spare room too.
type piece struct {
	name     string
	from, to uintptr
}

// pieces are those of all lists within.
func pieces(v reflect.Value, name string) []piece {
	var l []piece
	switch v.Kind() {
	case reflect.Struct:
		for i := range v.NumField() {
			l = append(l, pieces(v.Field(i), name+"."+v.Type().Field(i).Name)...)
		}
	case reflect.Slice:
		if v.Cap() > 0 {
			l = append(l, piece{name, v.Pointer(), v.Pointer() + uintptr(v.Cap())*v.Type().Elem().Size()})
		}
		// what stands in spare room may be reached, too
		v = v.Slice(0, v.Cap())
		for i := range v.Len() {
			l = append(l, pieces(v.Index(i), fmt.Sprintf("%s[%d]", name, i))...)
		}
	}
	return l
}

func piecesOf(l ...any) []piece {
	var all []piece
	for i, x := range l {
		all = append(all, pieces(reflect.ValueOf(x), fmt.Sprintf("%T %d", x, i))...)
	}
	return all
}

func tryShareNothing(t *testing.T, answered, others []piece) {
	t.Helper()
	for i, a := range answered {
		for _, b := range append(others, answered[:i]...) {
			if a.from < b.to && b.from < a.to {
				t.Errorf("%s and %s share memory", a.name, b.name)
			}
		}
	}
}

// copied has new memory for all lists, and so many things of spare room behind
// each, which are none if there is none.
func copied(v reflect.Value, spare int) reflect.Value {
	w := reflect.New(v.Type()).Elem()
	w.Set(v)
	switch v.Kind() {
	case reflect.Struct:
		for i := range v.NumField() {
			w.Field(i).Set(copied(v.Field(i), spare))
		}
	case reflect.Slice:
		w.Set(reflect.MakeSlice(v.Type(), v.Len()+spare, v.Len()+spare))
		for i := range v.Len() {
			w.Index(i).Set(copied(v.Index(i), spare))
		}
		w.SetLen(v.Len())
	}
	return w
}

func withSpare[T any](x T) T { return copied(reflect.ValueOf(x), 2).Interface().(T) }

func bare[T any](x T) T { return copied(reflect.ValueOf(x), 0).Interface().(T) }

// told is all that stands in lists, in their spare room too.
func told(v reflect.Value) string {
	var b strings.Builder
	switch v.Kind() {
	case reflect.Struct:
		for i := range v.NumField() {
			b.WriteString(told(v.Field(i)) + ";")
		}
	case reflect.Slice:
		for i := range v.Cap() {
			b.WriteString(told(v.Slice(0, v.Cap()).Index(i)) + ",")
		}
	default:
		fmt.Fprintf(&b, "%#v", v.Interface())
	}
	return b.String()
}

func toldOf(l ...any) string {
	var b strings.Builder
	for _, x := range l {
		b.WriteString(told(reflect.ValueOf(x)) + "\n")
	}
	return b.String()
}

// wipe clears all lists within, and their spare room.
func wipe(v reflect.Value) {
	switch v.Kind() {
	case reflect.Struct:
		for i := range v.NumField() {
			wipe(v.Field(i))
		}
	case reflect.Slice:
		for i := range v.Len() {
			wipe(v.Index(i))
		}
		v.Slice(0, v.Cap()).Clear()
	}
}

// plenty has two relations that are mutual, and steps of each kind.
const plenty = decls + `p(x, y) :- e(x, y), y = x, x < 3 * y, !e(y, 1), n = sum z : { e(z, x) }, !e(n, n).
p(x, z) :- p(x, y), q(y, z), p(z, 2), q(x, x), e(_, y + 1), !e(z, z + 1).
p(x, z) :- p(x, y), q(y, z), p(z, 2), q(x, x), e(_, y + 1), !e(z, z + 1).
q(x, y) :- e(x, y), p(y, x), s("a", x), !s("b", y).
q(1, 2).
q(x, y) :- e(y, x), e(x, y), e(x, x), 5 = count : { s("b", y) }.
s("a", x) :- e(x, x).
`

// R3
func TestAnswersShareNoMemory(t *testing.T) {
	p := withSpare(read(t, plenty))
	l, e := blocks.Of(p)
	if e != api.OK || strings.Join(texts(t, bare(p), l), " ") != "e// s/6/ p q/0 4 5/1@0 1@1 1@3 1@4 1@0 1@1 1@3 1@4 3@2" {
		t.Fatal(texts(t, bare(p), l), e)
	}
	again, _ := blocks.Of(p)
	tryShareNothing(t, piecesOf(l), piecesOf(p, again))
	for _, b := range l {
		for _, q := range append(b.Once, b.Loop...) {
			q = withSpare(q)
			tryShareNothing(t, piecesOf(blocks.Reads(q)), piecesOf(q, blocks.Reads(q)))
		}
	}
}

// R3
func TestWhatIsHandedInIsLeftAsItIs(t *testing.T) {
	for _, rules := range []string{plenty, plenty + "p(x, y) :- q(x, y), !p(y, x).", decls, ""} {
		p := withSpare(read(t, rules))
		was := toldOf(p)
		blocks.Of(p)
		if got := toldOf(p); got != was {
			t.Errorf("%s became %s", was, got)
		}
	}
	q := withSpare(queryOf(t, read(t, plenty), 1, 0))
	q.Steps = append(q.Steps, api.Step{Op: 9, Rel: -4}, api.Step{Op: 9, Rel: -4})
	was := toldOf(q)
	blocks.Reads(q)
	if got := toldOf(q); got != was {
		t.Errorf("%s became %s", was, got)
	}
}

// R3: what was handed in, and answered, may be written into later on.
func TestNothingIsKept(t *testing.T) {
	p := read(t, plenty)
	l, _ := blocks.Of(p)
	reads := blocks.Reads(l[2].Loop[0])
	was := toldOf(l, reads)
	wipe(reflect.ValueOf(p))
	if got := toldOf(l, reads); got != was {
		t.Errorf("%s became %s", was, got)
	}
	wasOfReads := toldOf(reads)
	wipe(reflect.ValueOf(l))
	if got := toldOf(reads); got != wasOfReads {
		t.Errorf("%s became %s", wasOfReads, got)
	}
	wipe(reflect.ValueOf(reads))
	l, _ = blocks.Of(read(t, plenty))
	if got := toldOf(l, blocks.Reads(l[2].Loop[0])); got != was {
		t.Errorf("%s, again %s", was, got)
	}
}

// R3: to lay something behind one list leaves all others as they are.
func TestListsMayGrow(t *testing.T) {
	l, _ := blocks.Of(read(t, plenty))
	was := toldOf(bare(l))
	for _, b := range l {
		_ = append(b.Rels, 99)
		_ = append(b.Once, api.Query{Rel: 99})
		_ = append(b.Loop, api.Query{Rel: 99})
		for _, q := range append(b.Once[:len(b.Once):len(b.Once)], b.Loop...) {
			_ = append(blocks.Reads(q), 99)
			_ = append(q.Steps, api.Step{Op: 99})
			_ = append(q.Out, api.Term{Op: 99})
		}
	}
	if got := toldOf(bare(l)); got != was {
		t.Errorf("%s became %s", was, got)
	}
}
