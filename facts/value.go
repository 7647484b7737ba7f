package facts

import (
	"strings"

	"sorites/api"
	"sorites/rel"
	"sorites/text"
)

func number(n int64) api.Val { return api.Val{N: n} }

func symbol(s string) api.Val { return api.Val{Sym: true, S: s} }

// valueOf is the value of a type whose text is there.
func valueOf(s string, kind int) (api.Val, api.Errno) {
	if kind == api.TNum {
		n, e := text.ParseNum(s)
		if e != api.OK {
			return api.Val{}, api.ErrFactNum
		}
		return number(n), api.OK
	}
	name, e := text.Unquote(s)
	if e != api.OK {
		return api.Val{}, api.ErrFactSym
	}
	return symbol(name), api.OK
}

func allFit(decls []api.Decl, all [][][]api.Val) bool {
	if len(all) != len(decls) {
		return false
	}
	for k, d := range decls {
		if !rel.Rise(all[k]) {
			return false
		}
		for _, row := range all[k] {
			if !fits(row, d.Types) {
				return false
			}
		}
	}
	return true
}

func fits(row []api.Val, types []int) bool {
	if len(row) != len(types) {
		return false
	}
	for c, val := range row {
		if !isOfType(val, types[c]) {
			return false
		}
	}
	return true
}

func isOfType(val api.Val, kind int) bool {
	if kind == api.TNum {
		return val == number(val.N)
	}
	return val == symbol(val.S)
}

func writeLines(b *strings.Builder, name string, rows [][]api.Val) {
	for _, row := range rows {
		writeLine(b, name, row)
	}
}

func writeLine(b *strings.Builder, name string, row []api.Val) {
	b.WriteString(name)
	for _, val := range row {
		b.WriteString(parting)
		b.WriteString(textOf(val))
	}
	b.WriteString(lineEnd)
}

func textOf(val api.Val) string {
	if val.Sym {
		return text.Quote(val.S)
	}
	return text.Num(val.N)
}
