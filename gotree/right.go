package gotree

import "sorites/api"

func isStruct(s api.GStruct) bool { return IsName(s.S) && areFields(s.Names, s.Types) }

func isFunc(f api.GFunc) bool {
	if !IsName(f.S) || !areFields(f.Names, f.Types) {
		return false
	}
	return (sameType(f.Ret, api.GType{}) || isType(f.Ret)) && areStmts(f.L)
}

func areFields(names []string, types []api.GType) bool {
	if len(names) > api.MaxGoParts || len(types) != len(names) {
		return false
	}
	for i, name := range names {
		if !IsName(name) || !isType(types[i]) {
			return false
		}
	}
	return true
}

func isType(t api.GType) bool {
	for level, part := range eachPart(t, typeParts) {
		if level > api.MaxGoHigh || !hasTypeShape(part) {
			return false
		}
	}
	return true
}

// hasTypeShape tells whether a type is right but for its height and its parts.
func hasTypeShape(t api.GType) bool {
	switch t.Op {
	case api.GInt, api.GText, api.GBool:
		return t.S == "" && len(t.L) == 0
	case api.GName:
		return IsName(t.S) && len(t.L) == 0
	case api.GList:
		return t.S == "" && len(t.L) == 1
	}
	return false
}

func isExpr(x api.GExpr) bool {
	for level, part := range eachPart(x, exprParts) {
		if level > api.MaxGoHigh || !hasExprShape(part) {
			return false
		}
	}
	return true
}

// hasExprShape tells whether an expression is right but for its height and
// its parts.
func hasExprShape(x api.GExpr) bool {
	if x.N < 0 || x.N > 0 && x.Op != api.EInt {
		return false
	}
	least, most := countOfParts(x.Op)
	return least <= len(x.L) && len(x.L) <= most && isTextOf(x.Op, x.S)
}

// countOfParts leaves no count to what is no expression.
func countOfParts(op int) (least, most int) {
	switch op {
	case api.EName, api.EInt, api.EText, api.ETrue, api.EFalse:
		return 0, 0
	case api.ENeg, api.ENot, api.EField, api.ELen:
		return 1, 1
	case api.EBin, api.EIndex, api.EAppend, api.EAt:
		return 2, 2
	case api.ESlice:
		return 3, 3
	case api.ECall, api.EMake:
		return 0, api.MaxGoParts
	}
	return 0, -1
}

func isTextOf(op int, s string) bool {
	switch op {
	case api.EName, api.ECall, api.EField, api.EMake:
		return IsName(s)
	case api.EText:
		return true
	case api.EBin:
		return isSign(s)
	}
	return s == ""
}

func isSign(s string) bool {
	switch s {
	case "+", "-", "*", "/", "%", "==", "!=", "<", "<=", ">", ">=", "&&", "||":
		return true
	}
	return false
}

func areStmts(l []api.GStmt) bool {
	for level, s := range eachStmt(l) {
		if level > api.MaxGoNest || !hasStmtShape(s) {
			return false
		}
	}
	return true
}

// hasStmtShape tells whether a statement is right but for how deep it stands
// and those within it: what its kind asks for is looked at and set aside, and
// nothing may be left.
func hasStmtShape(s api.GStmt) bool {
	none, ok, rest := api.GExpr{}, false, s
	rest.Op = 0
	switch s.Op {
	case api.GVar:
		ok = IsName(s.S) && isType(s.T)
		rest.S, rest.T = "", api.GType{}
	case api.GLet:
		ok = IsName(s.S) && isExpr(s.X)
		rest.S, rest.X = "", none
	case api.GSet:
		ok = isExpr(s.X) && isExpr(s.Y)
		rest.X, rest.Y = none, none
	case api.GIf:
		ok = isExpr(s.X)
		rest.X, rest.L, rest.M = none, nil, nil
	case api.GFor:
		ok = isExpr(s.X)
		rest.X, rest.L = none, nil
	case api.GRet:
		ok = sameExpr(s.X, none) || isExpr(s.X)
		rest.X = none
	case api.GDo:
		ok = s.X.Op == api.ECall && isExpr(s.X)
		rest.X = none
	case api.GBreak:
		ok = true
	}
	return ok && sameStmt(rest, api.GStmt{})
}
