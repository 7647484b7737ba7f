package gotree

import (
	"slices"

	"sorites/api"
)

func sameStruct(a, b api.GStruct) bool {
	return a.S == b.S && slices.Equal(a.Names, b.Names) && slices.EqualFunc(a.Types, b.Types, sameType)
}

func sameFunc(a, b api.GFunc) bool {
	return a.S == b.S && slices.Equal(a.Names, b.Names) && slices.EqualFunc(a.Types, b.Types, sameType) &&
		sameType(a.Ret, b.Ret) && slices.EqualFunc(a.L, b.L, sameStmt)
}

func sameStmt(a, b api.GStmt) bool {
	return a.Op == b.Op && a.S == b.S && sameType(a.T, b.T) && sameExpr(a.X, b.X) && sameExpr(a.Y, b.Y) &&
		slices.EqualFunc(a.L, b.L, sameStmt) && slices.EqualFunc(a.M, b.M, sameStmt)
}

func sameType(a, b api.GType) bool {
	return a.Op == b.Op && a.S == b.S && slices.EqualFunc(a.L, b.L, sameType)
}

func sameExpr(a, b api.GExpr) bool {
	return a.Op == b.Op && a.S == b.S && a.N == b.N && slices.EqualFunc(a.L, b.L, sameExpr)
}
