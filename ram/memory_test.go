package ram_test

import (
	"fmt"
	"reflect"
	"strings"
	"testing"

	"sorites/api"
	"sorites/ram"
)

// piece is the memory of a list, its spare room too.
type piece struct {
	name     string
	from, to uintptr
}

// pieces are those of all lists within.
func pieces(v reflect.Value, name string) []piece {
	var l []piece
	switch v.Kind() {
	case reflect.Struct:
		for i := range v.NumField() {
			l = append(l, pieces(v.Field(i), name+"."+v.Type().Field(i).Name)...)
		}
	case reflect.Slice:
		if v.Cap() > 0 {
			l = append(l, piece{name, v.Pointer(), v.Pointer() + uintptr(v.Cap())*v.Type().Elem().Size()})
		}
		// what stands in spare room may be reached, too
		v = v.Slice(0, v.Cap())
		for i := range v.Len() {
			l = append(l, pieces(v.Index(i), fmt.Sprintf("%s[%d]", name, i))...)
		}
	}
	return l
}

func piecesOf(l ...any) []piece {
	var all []piece
	for i, x := range l {
		all = append(all, pieces(reflect.ValueOf(x), fmt.Sprintf("%T %d", x, i))...)
	}
	return all
}

func tryShareNothing(t *testing.T, answered, others []piece) {
	t.Helper()
	for i, a := range answered {
		for _, b := range append(others, answered[:i]...) {
			if a.from < b.to && b.from < a.to {
				t.Errorf("%s and %s share memory", a.name, b.name)
			}
		}
	}
}

// copied has new memory for all lists, and so many things of spare room behind
// each, which are none if there is none.
func copied(v reflect.Value, spare int) reflect.Value {
	w := reflect.New(v.Type()).Elem()
	w.Set(v)
	switch v.Kind() {
	case reflect.Struct:
		for i := range v.NumField() {
			w.Field(i).Set(copied(v.Field(i), spare))
		}
	case reflect.Slice:
		w.Set(reflect.MakeSlice(v.Type(), v.Len()+spare, v.Len()+spare))
		for i := range v.Len() {
			w.Index(i).Set(copied(v.Index(i), spare))
		}
		w.SetLen(v.Len())
	}
	return w
}

func withSpare[T any](x T) T { return copied(reflect.ValueOf(x), 2).Interface().(T) }

func bare[T any](x T) T { return copied(reflect.ValueOf(x), 0).Interface().(T) }

// told is all that stands in lists, in their spare room too.
func told(v reflect.Value) string {
	var b strings.Builder
	switch v.Kind() {
	case reflect.Struct:
		for i := range v.NumField() {
			b.WriteString(told(v.Field(i)) + ";")
		}
	case reflect.Slice:
		for i := range v.Cap() {
			b.WriteString(told(v.Slice(0, v.Cap()).Index(i)) + ",")
		}
	default:
		fmt.Fprintf(&b, "%#v", v.Interface())
	}
	return b.String()
}

func toldOf(l ...any) string {
	var b strings.Builder
	for _, x := range l {
		b.WriteString(told(reflect.ValueOf(x)) + "\n")
	}
	return b.String()
}

// wipe clears all lists within, and their spare room.
func wipe(v reflect.Value) {
	switch v.Kind() {
	case reflect.Struct:
		for i := range v.NumField() {
			wipe(v.Field(i))
		}
	case reflect.Slice:
		for i := range v.Len() {
			wipe(v.Index(i))
		}
		v.Slice(0, v.Cap()).Clear()
	}
}

// plenty has rules that are run once, and two relations that are mutual.
const plenty = decls + `p(x, y) :- e(x, y), y != x, x < 3 * y, !e(y, 7), n = sum z : { e(z, x) }, !e(n, n).
p(x, z) :- p(x, y), p(y, z), e(_, y), !e(z, z + 1).
q(x) :- p(_, x), r("a"). p(x, x) :- q(x). q(9).
r(x) :- x = "new". e(8, 9).
`

func plentyOfRows() [][][]api.Val { return all("1 2 | 2 3 | 3 4 | 5 7", "4 5", "5", "a | b") }

// R3
func TestAnswersShareNoMemory(t *testing.T) {
	for _, rules := range []string{plenty, decls} {
		p, in := withSpare(read(t, rules)), withSpare(plentyOfRows())
		l, e := ram.Run(p, in, 100)
		n, e2 := ram.Rounds(p, in, 100)
		if e != api.OK || e2 != api.OK || count(l) < count(in) {
			t.Fatal(l, e, n, e2)
		}
		again, _ := ram.Run(p, in, 100)
		nAgain, _ := ram.Rounds(p, in, 100)
		tryShareNothing(t, piecesOf(l, n), piecesOf(p, in, again, nAgain))
	}
}

// R3: not even where rows that are handed in are in one piece of memory.
func TestAnswersOfRowsThatShareMemory(t *testing.T) {
	l := rows("1 2 | 2 3")
	l = append(l, append(l[1][:1:1], num(9)))
	p := read(t, decls+"p(y, x) :- e(x, y), x < 2.")
	got, e := ram.Run(p, [][][]api.Val{l, l[:2], {l[0][:1], l[1][:1]}, nil}, 100)
	if e != api.OK || !allSame(got, all("1 2 | 2 3 | 2 9", "1 2 | 2 1 | 2 3", "1 | 2", "")) {
		t.Fatal(got, e)
	}
	tryShareNothing(t, piecesOf(got), piecesOf(l))
}

// R3
func TestWhatIsHandedInIsLeftAsItIs(t *testing.T) {
	for _, rules := range []string{plenty, plenty + "p(x, y) :- e(x, y), !p(y, x).", decls, ".decl e(x: symbol)"} {
		for _, limit := range []int{0, 5, 10, 14, 1000} {
			p, in := withSpare(read(t, rules)), withSpare(plentyOfRows())
			was := toldOf(p, in)
			ram.Run(p, in, limit)
			ram.Rounds(p, in, limit)
			if got := toldOf(p, in); got != was {
				t.Errorf("%s became %s", was, got)
			}
		}
	}
}

// R3: what was handed in, and answered, may be written into later on.
func TestNothingIsKept(t *testing.T) {
	p, in := read(t, plenty), plentyOfRows()
	l, _ := ram.Run(p, in, 100)
	n, _ := ram.Rounds(p, in, 100)
	was := toldOf(bare(l), bare(n))
	wipe(reflect.ValueOf(p))
	wipe(reflect.ValueOf(in))
	if got := toldOf(bare(l), bare(n)); got != was {
		t.Errorf("%s became %s", was, got)
	}
	wipe(reflect.ValueOf(l))
	wipe(reflect.ValueOf(n))
	l, _ = ram.Run(read(t, plenty), plentyOfRows(), 100)
	n, _ = ram.Rounds(read(t, plenty), plentyOfRows(), 100)
	if got := toldOf(bare(l), bare(n)); got != was {
		t.Errorf("%s, again %s", was, got)
	}
}

// R3: to lay something behind one list leaves all others as they are.
func TestListsMayGrow(t *testing.T) {
	l, _ := ram.Run(read(t, plenty), plentyOfRows(), 100)
	was := toldOf(bare(l))
	for _, rows := range l {
		_ = append(rows, row("99"))
		for _, row := range rows {
			_ = append(row, num(99))
		}
	}
	if got := toldOf(bare(l)); got != was {
		t.Errorf("%s became %s", was, got)
	}
}
