package query_test

import (
	"fmt"
	"reflect"
	"strings"
	"testing"

	"sorites/api"
	"sorites/query"
)

// piece is the memory of a list, its spare room too.
type piece struct {
	name     string
	from, to uintptr
}

// pieces are those of all lists within.
func pieces(v reflect.Value, name string) []piece {
	var l []piece
	switch v.Kind() {
	case reflect.Struct:
		for i := range v.NumField() {
			l = append(l, pieces(v.Field(i), name+"."+v.Type().Field(i).Name)...)
		}
	case reflect.Slice:
		if v.Cap() > 0 {
			l = append(l, piece{name, v.Pointer(), v.Pointer() + uintptr(v.Cap())*v.Type().Elem().Size()})
		}
		for i := range v.Len() {
			l = append(l, pieces(v.Index(i), fmt.Sprintf("%s[%d]", name, i))...)
		}
	}
	return l
}

func tryShareNothing(t *testing.T, answered, others []piece) {
	t.Helper()
	for i, a := range answered {
		for _, b := range append(others, answered[:i]...) {
			if a.from < b.to && b.from < a.to {
				t.Errorf("%s and %s share memory", a.name, b.name)
			}
		}
	}
}

// withSpare has spare room behind all lists.
func withSpare[T any](x T) T {
	return spared(reflect.ValueOf(x)).Interface().(T)
}

func spared(v reflect.Value) reflect.Value {
	w := reflect.New(v.Type()).Elem()
	w.Set(v)
	switch v.Kind() {
	case reflect.Struct:
		for i := range v.NumField() {
			w.Field(i).Set(spared(v.Field(i)))
		}
	case reflect.Slice:
		w.Set(reflect.MakeSlice(v.Type(), v.Len()+2, v.Len()+2))
		for i := range v.Len() {
			w.Index(i).Set(spared(v.Index(i)))
		}
		w.SetLen(v.Len())
	}
	return w
}

// told is all that stands in lists, in their spare room too.
func told(v reflect.Value) string {
	var b strings.Builder
	switch v.Kind() {
	case reflect.Struct:
		for i := range v.NumField() {
			b.WriteString(told(v.Field(i)) + ";")
		}
	case reflect.Slice:
		for i := range v.Cap() {
			b.WriteString(told(v.Slice(0, v.Cap()).Index(i)) + ",")
		}
	default:
		fmt.Fprintf(&b, "%#v", v.Interface())
	}
	return b.String()
}

func toldOf(l ...any) string {
	var b strings.Builder
	for _, x := range l {
		b.WriteString(told(reflect.ValueOf(x)) + "\n")
	}
	return b.String()
}

func piecesOf(l ...any) []piece {
	var all []piece
	for i, x := range l {
		all = append(all, pieces(reflect.ValueOf(x), fmt.Sprintf("%T %d", x, i))...)
	}
	return all
}

// plenty gives rows, and has all kinds of lists.
const plenty = decls + `b(x, m) :- e(x, y, x), c("a", m), n = (x + y) * (2 - m), !e(n, y + 7, x), k = sum z : { e(z, y + 0, z) }, 5 = count : { b(_, _) }, m < 2 + (y * 3), b(x, m), x * (2 + m) = w, a(w - 2 * x).
c(u, y) :- c(u, y), s(u).
e(1, 2, 3).
`

// R3
func TestAnswersShareNoMemory(t *testing.T) {
	p, in := withSpare(read(t, plenty)), withSpare(facts()[:5])
	for k := range p.Rules {
		q := of(t, p, k)
		tryShareNothing(t, piecesOf(q), piecesOf(p, of(t, p, k)))
		l, e := query.Run(p, q, in, nil)
		again, _ := query.Run(p, q, in, nil)
		if len(l) == 0 || e != api.OK {
			t.Errorf("rule %d: %v, %d", k, l, e)
		}
		tryShareNothing(t, piecesOf(l), piecesOf(p, q, in, again))
	}
}

// R3
func TestWhatIsHandedInIsLeftAsItIs(t *testing.T) {
	p, in, delta := withSpare(read(t, plenty)), withSpare(facts()[:5]), withSpare(rows("1 1 1 | 2 7 2 | 3 1 1"))
	for k := range p.Rules {
		q := withSpare(of(t, p, k))
		for _, at := range []int{-1, 0, 1, 99} {
			q.Delta = at
			was := toldOf(p, q, in, delta)
			query.Of(p, k)
			query.Run(p, q, in, delta)
			query.Run(p, q, in[:4], delta)
			query.Run(p, api.Query{}, in, delta)
			if got := toldOf(p, q, in, delta); got != was {
				t.Fatalf("rule %d, Delta %d: %s became %s", k, at, was, got)
			}
		}
	}
}

// R3: what was handed in may be written into later on.
func TestNothingIsKept(t *testing.T) {
	p, in := read(t, plenty), facts()[:5]
	q, want := of(t, p, 0), text(of(t, p, 0))
	l, _ := query.Run(p, q, in, nil)
	wanted := toldOf(copyOf(l, false))
	for i := range p.Rules[0].Body {
		p.Rules[0].Body[i].Y.Op = api.OAny
		for k := range p.Rules[0].Body[i].A.L {
			p.Rules[0].Body[i].A.L[k] = api.Term{}
		}
	}
	for _, list := range in {
		for _, r := range list {
			clear(r)
		}
	}
	if text(q) != want || toldOf(copyOf(l, false)) != wanted {
		t.Errorf("%s became %s, %s became %s", want, text(q), wanted, toldOf(copyOf(l, false)))
	}
	p, in = read(t, plenty), facts()[:5]
	if again, _ := query.Run(p, of(t, p, 0), in, nil); toldOf(copyOf(again, false)) != wanted {
		t.Errorf("%v, again %v", l, again)
	}
}
