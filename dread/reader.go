package dread

import (
	"strconv"
	"strings"

	"sorites/api"
	"sorites/dtree"
)

// reader stands at a token, or behind the last one, and keeps what it has
// read of the program.
type reader struct {
	l    []api.Tok
	at   int
	prog api.Prog
}

// here is the token where the reader stands: behind the last one a token of
// no kind, whose line is 0.
func (r *reader) here() api.Tok { return r.further(0) }

func (r *reader) further(n int) api.Tok {
	if n >= len(r.l)-r.at {
		return api.Tok{}
	}
	return r.l[r.at+n]
}

func (r *reader) step() { r.at++ }

func (r *reader) fail(e api.Errno) error { return faultAt(r.here(), e) }

// eachBeginning yields the token where each thing of the program begins: who
// goes through them reads the thing, and leaves if it can't be read.
func (r *reader) eachBeginning(yield func(api.Tok) bool) {
	for r.at < len(r.l) && yield(r.l[r.at]) {
	}
}

// eachPlace yields how many things of a list stand ahead of each place where
// one is to be read. Another place follows behind each comma.
func (r *reader) eachPlace(yield func(int) bool) {
	for n := 0; yield(n) && r.skip(","); n++ {
	}
}

func list[T any](r *reader, most int, read func() (T, error)) ([]T, error) {
	var l []T
	var wrong error
things:
	for n := range r.eachPlace {
		if n == most {
			wrong = r.fail(api.ErrLong)
			break things
		}
		thing, err := read()
		if err != nil {
			wrong = err
			break things
		}
		l = append(l, thing)
	}
	if wrong != nil {
		return nil, wrong
	}
	return l, nil
}

// named reads a name, and a list in brackets behind it, as an atom and a
// relation have it.
func named[T any](r *reader, read func() (T, error)) (string, []T, error) {
	name, err := r.name()
	if err != nil {
		return "", nil, err
	}
	if err := r.signs("("); err != nil {
		return "", nil, err
	}
	l, err := list(r, api.MaxCols, read)
	if err != nil {
		return "", nil, err
	}
	return name, l, r.signs(")")
}

// name copies the name, for it becomes part of the answer.
func (r *reader) name() (string, error) {
	t := r.here()
	if !isName(t) {
		return "", r.fail(api.ErrParse)
	}
	r.step()
	return strings.Clone(t.S), nil
}

func (r *reader) signs(l ...string) error {
	for _, s := range l {
		if !r.skip(s) {
			return r.fail(api.ErrParse)
		}
	}
	return nil
}

func (r *reader) skip(sign string) bool {
	if !isSign(r.here(), sign) {
		return false
	}
	r.step()
	return true
}

func isSign(t api.Tok, s string) bool { return t.Kind == api.DSign && t.S == s }

func isWord(t api.Tok, s string) bool { return t.Kind == api.DWord && t.S == s }

// isName asks dtree, which holds what a name is: tokens that were not lexed
// may say anything, and what is read is to be right.
func isName(t api.Tok) bool {
	fact := api.Rule{Head: api.Atom{Rel: t.S, L: []api.Term{{Op: api.OInt}}}}
	return t.Kind == api.DIdent && dtree.RightRule(fact)
}

// numberOf refuses digits that a number's token does not have.
func numberOf(t api.Tok) (int64, bool) {
	n, err := strconv.ParseInt(t.S, 10, 64)
	if err != nil || t.Kind != api.DNum || n < 0 || strconv.FormatInt(n, 10) != t.S {
		return 0, false
	}
	return n, true
}
