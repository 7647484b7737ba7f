package dtree

import (
	"strings"

	"sorites/api"
	"sorites/text"
)

// What stands in texts for types, terms of two parts, and parts of bodies.
var (
	typeWords = [...]string{api.TNum: "number", api.TSym: "symbol"}
	termSigns = [...]string{api.OAdd: "+", api.OSub: "-", api.OMul: "*"}
	litWords  = [...]string{
		api.LEq: "=", api.LNe: "!=", api.LLt: "<", api.LLe: "<=",
		api.LCount: "count", api.LSum: "sum", api.LMin: "min", api.LMax: "max",
	}
)

// What is written from here on is right.

func writeProg(b *strings.Builder, p api.Prog) {
	for _, d := range p.Decls {
		writeDecl(b, d)
	}
	for _, r := range p.Rules {
		writeRule(b, r)
		b.WriteByte('\n')
	}
}

func writeDecl(b *strings.Builder, d api.Decl) {
	b.WriteString(".decl " + d.Rel + "(")
	for i, name := range d.Names {
		if i > 0 {
			b.WriteString(", ")
		}
		b.WriteString(name + ": " + typeWords[d.Types[i]])
	}
	b.WriteString(")\n")
	if d.In {
		b.WriteString(".input " + d.Rel + "\n")
	}
	if d.Out {
		b.WriteString(".output " + d.Rel + "\n")
	}
}

func writeRule(b *strings.Builder, r api.Rule) {
	writeAtom(b, r.Head)
	if len(r.Body) > 0 {
		b.WriteString(" :- ")
		writeParted(b, r.Body, writeLit)
	}
	b.WriteByte('.')
}

func writeLit(b *strings.Builder, l api.Lit) {
	switch l.Op {
	case api.LNot:
		b.WriteByte('!')
		fallthrough
	case api.LAtom:
		writeAtom(b, l.A)
	case api.LEq, api.LNe, api.LLt, api.LLe:
		writeTerm(b, l.X)
		b.WriteString(" " + litWords[l.Op] + " ")
		writeTerm(b, l.Y)
	default:
		writeAggregate(b, l)
	}
}

func writeAggregate(b *strings.Builder, l api.Lit) {
	writeTerm(b, l.X)
	b.WriteString(" = " + litWords[l.Op])
	if l.Op != api.LCount {
		b.WriteByte(' ')
		writeTerm(b, l.Y)
	}
	b.WriteString(" : { ")
	writeAtom(b, l.A)
	b.WriteString(" }")
}

func writeAtom(b *strings.Builder, a api.Atom) {
	b.WriteString(a.Rel + "(")
	writeParted(b, a.L, writeTerm)
	b.WriteByte(')')
}

func writeTerm(b *strings.Builder, t api.Term) {
	switch t.Op {
	case api.OVar:
		b.WriteString(t.S)
	case api.OInt:
		b.WriteString(text.Num(t.N))
	case api.OSym:
		b.WriteString(text.Quote(t.S))
	case api.OAny:
		b.WriteByte('_')
	default:
		b.WriteByte('(')
		writeTerm(b, t.L[0])
		b.WriteString(" " + termSigns[t.Op] + " ")
		writeTerm(b, t.L[1])
		b.WriteByte(')')
	}
}

func writeParted[T any](b *strings.Builder, l []T, write func(*strings.Builder, T)) {
	for i, part := range l {
		if i > 0 {
			b.WriteString(", ")
		}
		write(b, part)
	}
}
