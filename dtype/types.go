package dtype

import "sorites/api"

// types are those that variables are known to have.
type types map[string]int

// typesOf are the types of all variables of a right rule.
func typesOf(decls []api.Decl, r api.Rule) (types, error) {
	if err := checkAtoms(decls, r); err != nil {
		return nil, err
	}
	known := types{}
	if err := known.learnFromPlaces(decls, r); err != nil {
		return nil, err
	}
	if err := known.learnFromEachOther(r); err != nil {
		return nil, err
	}
	for t := range eachTerm(r) {
		if t.Op == api.OVar && known[t.S] == 0 {
			return nil, errType
		}
	}
	return known, nil
}

func checkAtoms(decls []api.Decl, r api.Rule) error {
	for a := range eachAtom(r) {
		i, ok := Find(decls, a.Rel)
		if !ok {
			return errNoRel
		}
		if len(decls[i].Types) != len(a.L) {
			return errArity
		}
	}
	return nil
}

// learnFromPlaces learns what each term's own place says of it. The atoms
// have been checked.
func (known types) learnFromPlaces(decls []api.Decl, r api.Rule) error {
	for a := range eachAtom(r) {
		i, _ := Find(decls, a.Rel)
		for k, t := range a.L {
			if err := known.learn(t, decls[i].Types[k]); err != nil {
				return err
			}
		}
	}
	for _, l := range r.Body {
		if holdsTwoTerms(l) {
			continue
		}
		if err := known.learnNumbers(l.X, l.Y); err != nil {
			return err
		}
	}
	for t := range eachTerm(r) {
		if err := known.learnNumbers(t.L...); err != nil {
			return err
		}
	}
	return nil
}

// learnFromEachOther hands types on between terms that are held against each
// other. A part may tell what one ahead of it needs, so it goes on until
// nothing more is learned.
func (known types) learnFromEachOther(r api.Rule) error {
	var wrong error
rounds:
	for before := -1; before < len(known); {
		before = len(known)
		for _, l := range r.Body {
			if !holdsTwoTerms(l) {
				continue
			}
			if wrong = known.learnAlike(l.X, l.Y); wrong != nil {
				break rounds
			}
		}
	}
	return wrong
}

func (known types) learnAlike(x, y api.Term) error {
	if known.of(y) == 0 {
		x, y = y, x
	}
	if kind := known.of(y); kind != 0 {
		return known.learn(x, kind)
	}
	return nil
}

func (known types) learnNumbers(l ...api.Term) error {
	for _, t := range l {
		if err := known.learn(t, api.TNum); err != nil {
			return err
		}
	}
	return nil
}

// learn takes in that a term has a type. A nameless term has each one that is
// asked for, and so has what a part leaves empty.
func (known types) learn(t api.Term, kind int) error {
	has := known.of(t)
	switch {
	case has == kind:
		return nil
	case has != 0:
		return errType
	case t.Op == api.OVar:
		known[t.S] = kind
	}
	return nil
}

// of is a term's type, 0 as long as that is not known.
func (known types) of(t api.Term) int {
	switch t.Op {
	case api.OVar:
		return known[t.S]
	case api.OInt, api.OAdd, api.OSub, api.OMul:
		return api.TNum
	case api.OSym:
		return api.TSym
	}
	return 0
}
