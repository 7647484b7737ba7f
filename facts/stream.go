package facts

import (
	"iter"
	"strings"

	"sorites/api"
	"sorites/dtype"
)

const (
	lineEnd = "\n"
	parting = "\t"
)

// line is one of a stream, with what ends it, and its number.
type line struct {
	number int
	bytes  string
}

func (l line) fail(e api.Errno) error { return lineError{l.number, e} }

// eachLine yields a stream's lines. What stands behind the last line's end
// comes as one that lacks its own.
func eachLine(s string) iter.Seq[line] {
	return func(yield func(line) bool) {
		rest := s
		for number := 1; rest != ""; number++ {
			size := lineSize(rest)
			if !yield(line{number, rest[:size]}) {
				return
			}
			rest = rest[size:]
		}
	}
}

func lineSize(s string) int {
	if end := strings.Index(s, lineEnd); end >= 0 {
		return end + len(lineEnd)
	}
	return len(s)
}

// rowsOf are a stream's rows, as they come, up to the first line that is none.
func rowsOf(decls []api.Decl, s string) ([][][]api.Val, error) {
	all := make([][][]api.Val, len(decls))
	var wrong error
lines:
	for l := range eachLine(s) {
		k, texts, err := l.parts(decls)
		if err != nil {
			wrong = err
			break lines
		}
		row := make([]api.Val, 0, len(texts))
		for c, kind := range decls[k].Types {
			val, e := valueOf(texts[c], kind)
			if e != api.OK {
				wrong = l.fail(e)
				break lines
			}
			row = append(row, val)
		}
		all[k] = append(all[k], row)
	}
	return all, wrong
}

// parts are the place of a line's relation, and its values' texts, as many as
// that has columns.
func (l line) parts(decls []api.Decl) (int, []string, error) {
	inner, isEnded := strings.CutSuffix(l.bytes, lineEnd)
	if !isEnded {
		return 0, nil, l.fail(api.ErrFactEnd)
	}
	name, values, _ := strings.Cut(inner, parting)
	k, isThere := dtype.Find(decls, name)
	if !isThere || !decls[k].In {
		return 0, nil, l.fail(api.ErrFactRel)
	}
	if strings.Count(inner, parting) != len(decls[k].Types) {
		return 0, nil, l.fail(api.ErrFactCols)
	}
	return k, strings.Split(values, parting), nil
}
