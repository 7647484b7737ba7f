package dtree

import (
	"slices"

	"sorites/api"
)

// Lines are left out: they do not matter.

func sameDecl(a, b api.Decl) bool {
	return a.Rel == b.Rel && a.In == b.In && a.Out == b.Out &&
		slices.Equal(a.Names, b.Names) && slices.Equal(a.Types, b.Types)
}

func sameRule(a, b api.Rule) bool {
	return sameAtom(a.Head, b.Head) && slices.EqualFunc(a.Body, b.Body, sameLit)
}

func sameLit(a, b api.Lit) bool {
	return a.Op == b.Op && sameAtom(a.A, b.A) && sameTerm(a.X, b.X) && sameTerm(a.Y, b.Y)
}

func sameAtom(a, b api.Atom) bool {
	return a.Rel == b.Rel && slices.EqualFunc(a.L, b.L, sameTerm)
}

func sameTerm(a, b api.Term) bool {
	return a.Op == b.Op && a.S == b.S && a.N == b.N && slices.EqualFunc(a.L, b.L, sameTerm)
}
