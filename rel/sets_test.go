package rel_test

import (
	"slices"
	"testing"

	"sorites/api"
	"sorites/rel"
)

// falling are lists that do not rise.
var falling = []string{"ba", "aa", "aab", "abb", "acb", "abca"}

// P8.2
func TestAdd(t *testing.T) {
	for _, c := range []struct {
		l, t, want string
		isNew      bool
	}{
		{"", "a", "a", true},
		{"a", "a", "a", false},
		{"b", "a", "ab", true},
		{"a", "b", "ab", true},
		{"ac", "b", "abc", true},
		{"abc", "a", "abc", false},
		{"abc", "b", "abc", false},
		{"abc", "c", "abc", false},
		{"bcd", "a", "abcd", true},
		{"abc", "d", "abcd", true},
	} {
		got, isNew, e := rel.Add(rows(c.l), row(c.t))
		if !sameRows(got, rows(c.want)) || isNew != c.isNew || e != api.OK {
			t.Errorf("%q, %q: %v, %v, %d", c.l, c.t, got, isNew, e)
		}
	}
}

// P8.2: each row may be the one that is not there yet.
func TestAddOfAllKinds(t *testing.T) {
	for i, r := range rising() {
		got, isNew, e := rel.Add(slices.Delete(rising(), i, i+1), r)
		if !sameRows(got, rising()) || !isNew || e != api.OK {
			t.Errorf("%v: %v, %v, %d", r, got, isNew, e)
		}
		got, isNew, e = rel.Add(rising(), r)
		if !sameRows(got, rising()) || isNew || e != api.OK {
			t.Errorf("%v twice: %v, %v, %d", r, got, isNew, e)
		}
	}
	if got, isNew, e := rel.Add(nil, nil); len(got) != 1 || len(got[0]) != 0 || !isNew || e != api.OK {
		t.Errorf("no values: %v, %v, %d", got, isNew, e)
	}
	if got, isNew, e := rel.Add([][]api.Val{nil}, []api.Val{}); len(got) != 1 || len(got[0]) != 0 || isNew || e != api.OK {
		t.Errorf("no values twice: %v, %v, %d", got, isNew, e)
	}
	if got, isNew, e := rel.Add([][]api.Val{{{N: 1, S: "a"}}}, []api.Val{{N: 1, S: "b"}}); len(got) != 1 || isNew || e != api.OK {
		t.Errorf("a number with texts: %v, %v, %d", got, isNew, e)
	}
}

// P8.2
func TestHas(t *testing.T) {
	for letters, has := range map[string]string{"": "", "c": "c", "bd": "bd", "abcde": "abcde", "ace": "ace"} {
		for _, r := range rows("abcde") {
			want := slices.ContainsFunc(rows(has), func(x []api.Val) bool { return slices.Equal(x, r) })
			if got, e := rel.Has(rows(letters), r); got != want || e != api.OK {
				t.Errorf("%q, %v: %v, %d", letters, r, got, e)
			}
		}
	}
}

// P8.2
func TestHasOfAllKinds(t *testing.T) {
	for i, r := range rising() {
		if has, e := rel.Has(rising(), r); !has || e != api.OK {
			t.Errorf("%v is there: %v, %d", r, has, e)
		}
		if has, e := rel.Has(slices.Delete(rising(), i, i+1), r); has || e != api.OK {
			t.Errorf("%v is not there: %v, %d", r, has, e)
		}
	}
	if has, e := rel.Has([][]api.Val{{{N: 1, S: "a"}}}, []api.Val{{N: 1, S: "b"}}); !has || e != api.OK {
		t.Errorf("a number with texts: %v, %d", has, e)
	}
}

// P8.2
func TestUnionAndMinus(t *testing.T) {
	for _, c := range []struct{ a, b, union, minus string }{
		{"", "", "", ""},
		{"a", "", "a", "a"},
		{"", "a", "a", ""},
		{"a", "a", "a", ""},
		{"a", "b", "ab", "a"},
		{"b", "a", "ab", "b"},
		{"ab", "cd", "abcd", "ab"},
		{"cd", "ab", "abcd", "cd"},
		{"ac", "bd", "abcd", "ac"},
		{"bd", "ac", "abcd", "bd"},
		{"abc", "b", "abc", "ac"},
		{"b", "abc", "abc", ""},
		{"ad", "abcd", "abcd", ""},
		{"abcd", "ad", "abcd", "bc"},
		{"abc", "bcd", "abcd", "a"},
		{"bcd", "abc", "abcd", "d"},
		{"abc", "abc", "abc", ""},
	} {
		if got, e := rel.Union(rows(c.a), rows(c.b)); !sameRows(got, rows(c.union)) || e != api.OK {
			t.Errorf("%q and %q: %v, %d", c.a, c.b, got, e)
		}
		if got, e := rel.Minus(rows(c.a), rows(c.b)); !sameRows(got, rows(c.minus)) || e != api.OK {
			t.Errorf("%q without %q: %v, %d", c.a, c.b, got, e)
		}
	}
}

// P8.2
func TestUnionAndMinusOfAllKinds(t *testing.T) {
	for i := range rising() {
		for k := range rising()[:i] {
			if got, e := rel.Union(rising()[:i], rising()[k:]); !sameRows(got, rising()) || e != api.OK {
				t.Errorf("%d, %d: %v, %d", i, k, got, e)
			}
			if got, e := rel.Minus(rising()[:i], rising()[k:]); !sameRows(got, rising()[:k]) || e != api.OK {
				t.Errorf("%d, %d: %v, %d", i, k, got, e)
			}
		}
	}
}

// P8.2, R2
func TestListsThatDoNotRise(t *testing.T) {
	for _, letters := range falling {
		for _, r := range rows("abcd") {
			if got, isNew, e := rel.Add(rows(letters), r); len(got) != 0 || isNew || e != api.ErrRel {
				t.Errorf("Add %q, %v: %v, %v, %d", letters, r, got, isNew, e)
			}
			if has, e := rel.Has(rows(letters), r); has || e != api.ErrRel {
				t.Errorf("Has %q, %v: %v, %d", letters, r, has, e)
			}
		}
		for _, other := range append([]string{"", "a", "abc", "d"}, falling...) {
			for _, pair := range [2][2]string{{letters, other}, {other, letters}} {
				if got, e := rel.Union(rows(pair[0]), rows(pair[1])); len(got) != 0 || e != api.ErrRel {
					t.Errorf("Union %q: %v, %d", pair, got, e)
				}
				if got, e := rel.Minus(rows(pair[0]), rows(pair[1])); len(got) != 0 || e != api.ErrRel {
					t.Errorf("Minus %q: %v, %d", pair, got, e)
				}
			}
		}
	}
}
