package gotree

import (
	"iter"

	"sorites/api"
)

// eachPart yields a tree and all trees within it, each with its level, ahead
// of its parts: whoever leaves at the first wrong one never goes deeper than
// a right tree is, even if a list holds itself.
func eachPart[T any](tree T, parts func(T) []T) iter.Seq2[int, T] {
	return func(yield func(int, T) bool) {
		var visit func(int, T) bool
		visit = func(level int, t T) bool {
			if !yield(level, t) {
				return false
			}
			for _, part := range parts(t) {
				if !visit(level+1, part) {
					return false
				}
			}
			return true
		}
		visit(1, tree)
	}
}

func typeParts(t api.GType) []api.GType { return t.L }

func exprParts(x api.GExpr) []api.GExpr { return x.L }

// eachStmt yields statements and all those within them, likewise.
func eachStmt(l []api.GStmt) iter.Seq2[int, api.GStmt] {
	return func(yield func(int, api.GStmt) bool) {
		var visit func(int, []api.GStmt) bool
		visit = func(level int, l []api.GStmt) bool {
			for _, s := range l {
				if !yield(level, s) || !visit(level+1, s.L) || !visit(level+1, s.M) {
					return false
				}
			}
			return true
		}
		visit(1, l)
	}
}
