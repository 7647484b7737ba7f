package gotree

import (
	"strings"

	"sorites/api"
	"sorites/text"
)

// What is written from here on is right.

func writeFile(b *strings.Builder, f api.GFile) {
	b.WriteString("package main\n")
	for _, s := range f.Structs {
		b.WriteString("\ntype " + s.S + " struct {\n")
		for i, name := range s.Names {
			b.WriteString("\t" + name + " " + typeText(s.Types[i]) + "\n")
		}
		b.WriteString("}\n")
	}
	for _, g := range f.Funcs {
		writeFunc(b, g)
	}
}

func writeFunc(b *strings.Builder, f api.GFunc) {
	b.WriteString("\nfunc " + f.S + "(")
	for i, name := range f.Names {
		b.WriteString(partedBy(i) + name + " " + typeText(f.Types[i]))
	}
	b.WriteString(")")
	if f.Ret.Op != 0 {
		b.WriteString(" " + typeText(f.Ret))
	}
	b.WriteString(" {\n")
	writeStmts(b, f.L, "\t")
	b.WriteString("}\n")
}

// partedBy stands ahead of the part at a place of a list.
func partedBy(place int) string {
	if place == 0 {
		return ""
	}
	return ", "
}

// typeText goes from the outmost list to what it is a list of.
func typeText(t api.GType) string {
	written := ""
	for _, part := range eachPart(t, typeParts) {
		switch part.Op {
		case api.GList:
			written += "[]"
		case api.GInt:
			written += "int"
		case api.GText:
			written += "string"
		case api.GBool:
			written += "bool"
		default:
			written += part.S
		}
	}
	return written
}

func writeStmts(b *strings.Builder, l []api.GStmt, tabs string) {
	for _, s := range l {
		b.WriteString(tabs)
		writeStmt(b, s, tabs)
		b.WriteByte('\n')
	}
}

// writeStmt leaves out the tabs ahead and the line's end behind.
func writeStmt(b *strings.Builder, s api.GStmt, tabs string) {
	switch s.Op {
	case api.GVar:
		b.WriteString("var " + s.S + " " + typeText(s.T))
	case api.GLet:
		b.WriteString(s.S + " := ")
		writeExpr(b, s.X)
	case api.GSet:
		writeExpr(b, s.X)
		b.WriteString(" = ")
		writeExpr(b, s.Y)
	case api.GIf:
		writeHeld(b, "if ", s.X, s.L, tabs)
		if len(s.M) > 0 {
			b.WriteString(" else {\n")
			writeStmts(b, s.M, tabs+"\t")
			b.WriteString(tabs + "}")
		}
	case api.GFor:
		writeHeld(b, "for ", s.X, s.L, tabs)
	case api.GRet:
		b.WriteString("return")
		if s.X.Op != 0 {
			b.WriteByte(' ')
			writeExpr(b, s.X)
		}
	case api.GDo:
		writeExpr(b, s.X)
	case api.GBreak:
		b.WriteString("break")
	}
}

func writeHeld(b *strings.Builder, word string, x api.GExpr, l []api.GStmt, tabs string) {
	b.WriteString(word)
	writeExpr(b, x)
	b.WriteString(" {\n")
	writeStmts(b, l, tabs+"\t")
	b.WriteString(tabs + "}")
}

func writeExpr(b *strings.Builder, x api.GExpr) {
	switch x.Op {
	case api.EName:
		b.WriteString(x.S)
	case api.EInt:
		b.WriteString(text.Num(x.N))
	case api.EText:
		b.WriteString(text.Quote(x.S))
	case api.ETrue:
		b.WriteString("true")
	case api.EFalse:
		b.WriteString("false")
	case api.ECall:
		writeList(b, x.S+"(", x.L, ")")
	case api.EMake:
		writeList(b, "("+x.S+"{", x.L, "})")
	default:
		writeBetween(b, x.L, around(x)...)
	}
}

// around are the texts ahead of, between, and behind an expression's parts.
func around(x api.GExpr) []string {
	switch x.Op {
	case api.EBin:
		return []string{"(", " " + x.S + " ", ")"}
	case api.ENeg:
		return []string{"(-", ")"}
	case api.ENot:
		return []string{"(!", ")"}
	case api.EIndex:
		return []string{"", "[", "]"}
	case api.ESlice:
		return []string{"", "[", ":", "]"}
	case api.EField:
		// A dot right behind a number would make it a decimal.
		if x.L[0].Op == api.EInt {
			return []string{"(", ")." + x.S}
		}
		return []string{"", "." + x.S}
	case api.ELen:
		return []string{"len(", ")"}
	case api.EAppend:
		return []string{"append(", ", ", ")"}
	}
	return []string{"int(", "[", "])"}
}

// writeBetween is handed one text more than parts.
func writeBetween(b *strings.Builder, l []api.GExpr, texts ...string) {
	for i, part := range l {
		b.WriteString(texts[i])
		writeExpr(b, part)
	}
	b.WriteString(texts[len(l)])
}

func writeList(b *strings.Builder, ahead string, l []api.GExpr, behind string) {
	b.WriteString(ahead)
	for i, part := range l {
		b.WriteString(partedBy(i))
		writeExpr(b, part)
	}
	b.WriteString(behind)
}
