package parse

import "flyball/api"

const signBit api.Float = 1 << 63

func (r *reader) program() api.Program {
	var p api.Program
	r.expect("ticks")
	p.Ticks = int(r.takeKind(api.KindInt).Int)
	r.expect(";")
	p.Decls = r.decls()
	r.expect("init")
	p.Init = r.block()
	r.expect("step")
	p.Step = r.block()
	r.expectEnd()
	return p
}

func (r *reader) decls() []api.Decl {
	var list []api.Decl
	reached := 0
	for r.sees("input") || r.sees("var") {
		count(&reached, api.MaxCells, r.next().At)
		list = append(list, r.decl())
	}
	return list
}

func (r *reader) decl() api.Decl {
	head := r.take()
	d := api.Decl{At: head.At, Input: head.Text == "input"}
	d.Name = r.takeKind(api.KindName).Text
	r.expect(":")
	d.Type = r.typeName()
	switch {
	case d.Input && r.accept("in"):
		d.Range = true
		r.enclosed("[", "]", func() {
			d.Lo = r.number()
			r.expect(",")
			d.Hi = r.number()
		})
	case !d.Input && r.sees("["):
		r.enclosed("[", "]", func() { d.Len = int(r.takeKind(api.KindInt).Int) })
	}
	r.expect(";")
	return d
}

func (r *reader) typeName() api.Type {
	switch {
	case r.accept("bool"):
		return api.TypeBool
	case r.accept("int"):
		return api.TypeInt
	}
	r.expect("float")
	return api.TypeFloat
}

// number reads an end of a range, which does not count as an expression of the program.
func (r *reader) number() api.Expr {
	at := r.next().At
	minus := r.accept("-")
	if r.next().Kind != api.KindFloat {
		return api.Expr{Op: api.OpInt, At: at, Int: r.integer(minus)}
	}
	x := r.take().Float
	if minus {
		x |= signBit
	}
	return api.Expr{Op: api.OpFloat, At: at, Float: x}
}

func (r *reader) whole() int32 {
	return r.integer(r.accept("-"))
}

// integer reads what follows the sign, if there was one.
func (r *reader) integer(minus bool) int32 {
	n := r.takeKind(api.KindInt).Int
	if minus {
		return -n
	}
	return n
}
