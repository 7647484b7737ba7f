package cover_test

import (
	"fmt"
	"reflect"
	"strings"
	"testing"

	"sorites/api"
	"sorites/cover"
)

// piece is the memory of a list, its spare room too.
type piece struct {
	name     string
	from, to uintptr
}

// pieces are those of all lists within.
func pieces(v reflect.Value, name string) []piece {
	var l []piece
	switch v.Kind() {
	case reflect.Struct:
		for i := range v.NumField() {
			l = append(l, pieces(v.Field(i), name+"."+v.Type().Field(i).Name)...)
		}
	case reflect.Slice:
		if v.Cap() > 0 {
			l = append(l, piece{name, v.Pointer(), v.Pointer() + uintptr(v.Cap())*v.Type().Elem().Size()})
		}
		// what stands in spare room may be reached, too
		v = v.Slice(0, v.Cap())
		for i := range v.Len() {
			l = append(l, pieces(v.Index(i), fmt.Sprintf("%s[%d]", name, i))...)
		}
	}
	return l
}

func piecesOf(l ...any) []piece {
	var all []piece
	for i, x := range l {
		all = append(all, pieces(reflect.ValueOf(x), fmt.Sprintf("%T %d", x, i))...)
	}
	return all
}

func tryShareNothing(t *testing.T, answered, others []piece) {
	t.Helper()
	for i, a := range answered {
		for _, b := range append(others, answered[:i]...) {
			if a.from < b.to && b.from < a.to {
				t.Errorf("%s and %s share memory", a.name, b.name)
			}
		}
	}
}

// spared has spare room behind all lists.
func spared(v reflect.Value) reflect.Value {
	w := reflect.New(v.Type()).Elem()
	w.Set(v)
	switch v.Kind() {
	case reflect.Struct:
		for i := range v.NumField() {
			w.Field(i).Set(spared(v.Field(i)))
		}
	case reflect.Slice:
		w.Set(reflect.MakeSlice(v.Type(), v.Len()+2, v.Len()+2))
		for i := range v.Len() {
			w.Index(i).Set(spared(v.Index(i)))
		}
		w.SetLen(v.Len())
	}
	return w
}

func withSpare[T any](x T) T { return spared(reflect.ValueOf(x)).Interface().(T) }

// told is all that stands in lists, in their spare room too.
func told(v reflect.Value) string {
	var b strings.Builder
	switch v.Kind() {
	case reflect.Struct:
		for i := range v.NumField() {
			b.WriteString(told(v.Field(i)) + ";")
		}
	case reflect.Slice:
		for i := range v.Cap() {
			b.WriteString(told(v.Slice(0, v.Cap()).Index(i)) + ",")
		}
	default:
		fmt.Fprintf(&b, "%#v", v.Interface())
	}
	return b.String()
}

func toldOf(l ...any) string {
	var b strings.Builder
	for _, x := range l {
		b.WriteString(told(reflect.ValueOf(x)) + "\n")
	}
	return b.String()
}

const plenty = decls + `p(x) :- e(x, 1, _), e(_, 2, x), !e(x, _, 3), n = sum z : { e(z, x, 1) }, s("a", x).
p(x) :- e(x, 1, _), e(x, 1, _), e(x, _, 1), p(x), !s(_, x).
`

// R3
func TestAnswersShareNoMemory(t *testing.T) {
	p := withSpare(read(t, plenty))
	for rel := range p.Decls {
		l, e := cover.Sets(p, rel)
		again, _ := cover.Sets(p, rel)
		if len(l) == 0 || e != api.OK {
			t.Errorf("relation %d: %v, %d", rel, l, e)
		}
		tryShareNothing(t, piecesOf(l), piecesOf(p, again))
	}
	for _, s := range []string{"", "0", "0|1|2|0 1|0 2|1 2|0 1 2", "0|0 1|0 1 2", "0 1 2"} {
		sets := withSpare(lists(s))
		l, _ := cover.Orders(3, sets)
		again, _ := cover.Orders(3, sets)
		if len(l) == 0 {
			t.Errorf("%s: %v", s, l)
		}
		tryShareNothing(t, piecesOf(l), piecesOf(sets, again))
	}
}

// R3
func TestWhatIsHandedInIsLeftAsItIs(t *testing.T) {
	p, sets, orders, set := withSpare(read(t, plenty)), withSpare(lists("0 1|0|1 2|2|0 1 2")), withSpare(lists("2 1 0|1 0 2")), withSpare(list("0 1"))
	was := toldOf(p, sets, orders, set)
	for rel := -1; rel < 4; rel++ {
		cover.Sets(p, rel)
	}
	for cols := range 4 {
		cover.Least(cols, sets)
		cover.Orders(cols, sets)
		cover.Orders(cols, orders)
	}
	cover.Serves(orders[1], set)
	cover.Which(orders, set)
	if got := toldOf(p, sets, orders, set); got != was {
		t.Errorf("%s became %s", was, got)
	}
}

// R3: what was handed in, and answered, may be written into later on.
func TestNothingIsKept(t *testing.T) {
	p, sets := read(t, plenty), lists("0 1|0|1 2|2|0 1 2")
	l, _ := cover.Sets(p, 0)
	orders, _ := cover.Orders(3, sets)
	was := toldOf(l, orders)
	for _, set := range sets {
		clear(set)
	}
	clear(sets)
	for _, r := range p.Rules {
		for i := range r.Body {
			clear(r.Body[i].A.L)
		}
	}
	if got := toldOf(l, orders); got != was {
		t.Errorf("%s became %s", was, got)
	}
	for _, list := range append(l, orders...) {
		clear(list[:cap(list)])
	}
	l, _ = cover.Sets(read(t, plenty), 0)
	orders, _ = cover.Orders(3, lists("0 1|0|1 2|2|0 1 2"))
	if got := toldOf(l, orders); got != was {
		t.Errorf("%s, again %s", was, got)
	}
}
