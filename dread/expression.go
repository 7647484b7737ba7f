package dread

import (
	"strings"

	"sorites/api"
)

// expression reads one that is part of no other one.
func (r *reader) expression() (api.Term, error) {
	first := r.here()
	t, err := r.sum()
	if err != nil {
		return api.Term{}, err
	}
	if height(t) > api.MaxDeep {
		return api.Term{}, faultAt(first, api.ErrDeep)
	}
	return t, nil
}

func height(t api.Term) int {
	high := 0
	for _, part := range t.L {
		high = max(high, height(part))
	}
	return high + 1
}

func (r *reader) sum() (api.Term, error) { return r.chain(r.product, sumSign) }

func (r *reader) product() (api.Term, error) { return r.chain(r.thing, productSign) }

// chain reads parts, as long as a sign stands between them, from left to
// right.
func (r *reader) chain(part func() (api.Term, error), opOf func(api.Tok) int) (api.Term, error) {
	x, err := part()
	if err != nil {
		return api.Term{}, err
	}
	for {
		sign := r.here()
		op := opOf(sign)
		if op == 0 {
			return x, nil
		}
		r.step()
		y, err := part()
		if err != nil {
			return api.Term{}, err
		}
		if x.Op == api.OSym || y.Op == api.OSym {
			return api.Term{}, faultAt(sign, api.ErrParse)
		}
		x = api.Term{Op: op, L: []api.Term{x, y}}
	}
}

func sumSign(t api.Tok) int {
	switch {
	case isSign(t, "+"):
		return api.OAdd
	case isSign(t, "-"):
		return api.OSub
	}
	return 0
}

func productSign(t api.Tok) int {
	if isSign(t, "*") {
		return api.OMul
	}
	return 0
}

func (r *reader) thing() (api.Term, error) {
	t := r.here()
	negative := false
	switch {
	case isSign(t, "-"):
		negative = true
		r.step()
		fallthrough
	case t.Kind == api.DNum:
		return r.number(negative)
	case t.Kind == api.DText:
		r.step()
		return api.Term{Op: api.OSym, S: strings.Clone(t.S)}, nil
	case isSign(t, "("):
		return r.bracketed()
	}
	name, err := r.name()
	if err != nil {
		return api.Term{}, err
	}
	return api.Term{Op: api.OVar, S: name}, nil
}

func (r *reader) number(negative bool) (api.Term, error) {
	n, ok := numberOf(r.here())
	if !ok {
		return api.Term{}, r.fail(api.ErrParse)
	}
	r.step()
	if negative {
		n = -n
	}
	return api.Term{Op: api.OInt, N: n}, nil
}

// bracketed reads on behind a `(`: the brackets leave nothing in the tree.
func (r *reader) bracketed() (api.Term, error) {
	r.step()
	t, err := r.sum()
	if err != nil {
		return api.Term{}, err
	}
	if err := r.signs(")"); err != nil {
		return api.Term{}, err
	}
	return t, nil
}
