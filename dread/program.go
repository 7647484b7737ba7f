package dread

import (
	"slices"

	"sorites/api"
)

func (r *reader) program() error {
	for first := range r.eachBeginning {
		if err := r.thingFrom(first); err != nil {
			return err
		}
	}
	return nil
}

func (r *reader) thingFrom(first api.Tok) error {
	switch {
	case isWord(first, ".decl"):
		return r.relation()
	case isWord(first, ".input"):
		return r.mark(inMark)
	case isWord(first, ".output"):
		return r.mark(outMark)
	}
	return r.rule()
}

type column struct {
	name string
	kind int
}

func (r *reader) relation() error {
	if len(r.prog.Decls) == api.MaxDecls {
		return r.fail(api.ErrLong)
	}
	d := api.Decl{Line: r.here().Line}
	r.step()
	name, columns, err := named(r, r.column)
	if err != nil {
		return err
	}
	d.Rel = name
	for _, c := range columns {
		d.Names = append(d.Names, c.name)
		d.Types = append(d.Types, c.kind)
	}
	r.prog.Decls = append(r.prog.Decls, d)
	return nil
}

func (r *reader) column() (column, error) {
	name, err := r.name()
	if err != nil {
		return column{}, err
	}
	if err := r.signs(":"); err != nil {
		return column{}, err
	}
	kind := typeOf(r.here())
	if kind == 0 {
		return column{}, r.fail(api.ErrParse)
	}
	r.step()
	return column{name, kind}, nil
}

func typeOf(t api.Tok) int {
	switch {
	case t.Kind != api.DIdent:
		return 0
	case t.S == "number":
		return api.TNum
	case t.S == "symbol":
		return api.TSym
	}
	return 0
}

func inMark(d *api.Decl) *bool { return &d.In }

func outMark(d *api.Decl) *bool { return &d.Out }

// mark reads a word that marks a relation, and its name. It fails at the word
// itself where no relation is left that could be so marked: no name can stand
// behind it then.
func (r *reader) mark(markOf func(*api.Decl) *bool) error {
	if !r.canMark(markOf) {
		return r.fail(api.ErrParse)
	}
	r.step()
	t := r.here()
	i := r.firstOf(t.S)
	if t.Kind != api.DIdent || i < 0 || *markOf(&r.prog.Decls[i]) {
		return r.fail(api.ErrParse)
	}
	*markOf(&r.prog.Decls[i]) = true
	r.step()
	return nil
}

func (r *reader) canMark(markOf func(*api.Decl) *bool) bool {
	for i := range r.prog.Decls {
		d := &r.prog.Decls[i]
		if !*markOf(d) && r.firstOf(d.Rel) == i {
			return true
		}
	}
	return false
}

func (r *reader) firstOf(rel string) int {
	return slices.IndexFunc(r.prog.Decls, func(d api.Decl) bool { return d.Rel == rel })
}
