package check

import (
	"reflect"
	"slices"
	"strings"

	"flyball/api"
)

// This file makes programs: valid ones, such ones with a few changes, and any.

// stream makes words from a fixed start, so that a failure can be had again.
type stream uint64

func (s *stream) next() uint64 {
	x := uint64(*s)
	x ^= x << 13
	x ^= x >> 7
	x ^= x << 17
	*s = stream(x)
	return x * 0x2545f4914f6cdd1d
}

func (s *stream) below(n int) int { return int(s.next() >> 32 % uint64(n)) }

func (s *stream) flip() bool { return s.below(2) == 0 }

func pick[T any](s *stream, l ...T) T { return l[s.below(len(l))] }

const (
	plusInf  api.Float = 0x7ff0000000000000
	minusInf api.Float = 0xfff0000000000000
	quietNaN api.Float = 0x7ff8000000000000
	otherNaN api.Float = 0xfff0000000000001
	greatest api.Float = 0x7fefffffffffffff
	minusNil api.Float = 1 << 63
	one      api.Float = 0x3ff0000000000000
)

const theNames = "a b v x1 _ IF inn e5 i j k n u Z9 a_name_that_is_just_32_bytes_lon"

// draft makes a valid program; what it has declared it uses.
type draft struct {
	*stream
	decls []api.Decl
	loops []string
	init  bool
}

func (s *stream) valid() api.Program {
	d := &draft{stream: s}
	p := api.Program{Ticks: pick(s, 1, 2, 100, 2147483647)}
	cells := 0
	for range s.below(12) {
		x := d.decl()
		if size := max(x.Len, 1); cells+size <= 96 {
			cells += size
			d.decls = append(d.decls, x)
		}
	}
	p.Decls = slices.Clone(d.decls)
	d.init = true
	p.Init = d.stmts(2)
	d.init = false
	p.Step = d.stmts(4)
	number(&p)
	return p
}

// number gives each part a place of its own.
func number[T any](x *T) {
	n := 0
	eachField(reflect.ValueOf(x).Elem(), func(name string, v reflect.Value) {
		if name == "At" {
			n++
			v.SetInt(int64(n))
		}
	})
}

// eachField visits all that there is within a value but for structs, and the elements of lists behind the lists.
func eachField(v reflect.Value, visit func(name string, v reflect.Value)) {
	switch v.Kind() {
	case reflect.Struct:
		for i := range v.NumField() {
			f := v.Field(i)
			if f.Kind() != reflect.Struct {
				visit(v.Type().Field(i).Name, f)
			}
			eachField(f, visit)
		}
	case reflect.Slice:
		for i := range v.Len() {
			eachField(v.Index(i), visit)
		}
	}
}

func (d *draft) decl() api.Decl {
	x := api.Decl{Name: d.fresh(), Type: pick(d.stream, api.TypeBool, api.TypeInt, api.TypeFloat), Input: d.below(3) == 0}
	switch {
	case !x.Input:
		x.Len = pick(d.stream, 0, 0, 1, 2, 16)
	case x.Type == api.TypeInt:
		x.Range = true
		x.Lo, x.Hi = api.Expr{Op: api.OpInt, Int: pick[int32](d.stream, -1<<31, -5, 0)}, api.Expr{Op: api.OpInt, Int: pick[int32](d.stream, 0, 7, 1<<31-1)}
	case x.Type == api.TypeFloat:
		x.Range = true
		x.Lo = pick(d.stream, api.Expr{Op: api.OpInt, Int: -1}, api.Expr{Op: api.OpFloat, Float: minusNil}, api.Expr{Op: api.OpFloat, Float: 0}, api.Expr{Op: api.OpFloat, Float: greatest | minusNil})
		x.Hi = pick(d.stream, api.Expr{Op: api.OpInt}, api.Expr{Op: api.OpFloat, Float: minusNil}, api.Expr{Op: api.OpFloat, Float: 1}, api.Expr{Op: api.OpFloat, Float: greatest})
	}
	return x
}

// fresh is a name that is not in use here.
func (d *draft) fresh() string {
	for {
		name := pick(d.stream, strings.Fields(theNames)...)
		if !slices.Contains(d.loops, name) && !slices.ContainsFunc(d.decls, func(x api.Decl) bool { return x.Name == name }) {
			return name
		}
	}
}

func (d *draft) stmts(levels int) []api.Stmt {
	var l []api.Stmt
	for range d.below(4) {
		l = append(l, d.stmt(levels))
	}
	return l
}

func (d *draft) stmt(levels int) api.Stmt {
	way := d.below(5)
	switch {
	case levels > 1 && way == 0:
		return api.Stmt{Kind: api.StmtIf, Expr: d.expr(api.TypeBool, 3), Then: d.stmts(levels - 1), Else: d.stmts(levels - 1)}
	case levels > 1 && way == 1 && len(d.loops) < 2:
		return d.loop(levels)
	}
	for range 20 {
		if len(d.decls) == 0 {
			break
		}
		x := pick(d.stream, d.decls...)
		if x.Input {
			continue
		}
		s := api.Stmt{Kind: api.StmtAssign, Name: x.Name, Expr: d.expr(x.Type, 4)}
		if x.Len > 0 {
			s.Index = []api.Expr{d.expr(api.TypeInt, 3)}
		}
		return s
	}
	return api.Stmt{Kind: api.StmtIf, Expr: d.expr(api.TypeBool, 2)}
}

func (d *draft) loop(levels int) api.Stmt {
	s := api.Stmt{Kind: api.StmtFor, Name: d.fresh(), Lo: pick[int32](d.stream, 0, -3, 5, 1<<31-16, -1<<31)}
	s.Hi = s.Lo + pick[int32](d.stream, 0, 1, 15)
	if s.Lo >= 0 && d.below(3) == 0 {
		s.Hi = pick[int32](d.stream, -1, -1<<31)
	}
	outer := d.loops
	d.loops = append(slices.Clone(outer), s.Name)
	s.Then = d.stmts(levels - 1)
	d.loops = outer
	return s
}

// expr is an expression of this type, of so many levels at most.
func (d *draft) expr(t api.Type, levels int) api.Expr {
	if levels == 1 || d.below(4) == 0 {
		return d.leaf(t, levels)
	}
	number := func() api.Type { return pick(d.stream, api.TypeInt, api.TypeFloat) }
	of := func(op api.Op, types ...api.Type) api.Expr {
		e := api.Expr{Op: op}
		for _, t := range types {
			e.Args = append(e.Args, d.expr(t, levels-1))
		}
		return e
	}
	way := d.below(3)
	switch {
	case t == api.TypeBool && way == 0:
		n := number()
		return of(pick(d.stream, api.OpLess, api.OpLessEq, api.OpMore, api.OpMoreEq), n, n)
	case t == api.TypeBool && way == 1:
		n := pick(d.stream, api.TypeBool, number())
		return of(pick(d.stream, api.OpEq, api.OpNotEq), n, n)
	case t == api.TypeBool:
		return pick(d.stream, of(pick(d.stream, api.OpAnd, api.OpOr), api.TypeBool, api.TypeBool), of(api.OpNot, api.TypeBool))
	case way == 0:
		return of(pick(d.stream, api.OpAdd, api.OpSub, api.OpMul, api.OpDiv), t, t)
	case way == 1:
		return of(pick(d.stream, api.OpNeg, api.OpAbs), t)
	case t == api.TypeInt:
		return of(api.OpToInt, api.TypeFloat)
	}
	return of(api.OpToFloat, api.TypeInt)
}

func (d *draft) leaf(t api.Type, levels int) api.Expr {
	for range d.below(6) {
		if t == api.TypeInt && len(d.loops) > 0 && d.below(3) == 0 {
			return api.Expr{Op: api.OpName, Name: pick(d.stream, d.loops...)}
		}
		if len(d.decls) == 0 {
			break
		}
		x := pick(d.stream, d.decls...)
		if x.Type != t || x.Input && d.init || x.Len > 0 && levels == 1 {
			continue
		}
		e := api.Expr{Op: api.OpName, Name: x.Name}
		if x.Len > 0 {
			e.Args = []api.Expr{d.expr(api.TypeInt, levels-1)}
		}
		return e
	}
	switch t {
	case api.TypeBool:
		return api.Expr{Op: api.OpBool, Bool: d.flip()}
	case api.TypeInt:
		return api.Expr{Op: api.OpInt, Int: pick[int32](d.stream, 0, 1, -1<<31, 1<<31-1)}
	}
	return api.Expr{Op: api.OpFloat, Float: pick(d.stream, 0, minusNil, one, greatest, 1)}
}

// change sets one field, or the number of elements of one list, within x to something else that it can be.
func change[T any](s *stream, x *T) {
	var fields []reflect.Value
	eachField(reflect.ValueOf(x).Elem(), func(name string, v reflect.Value) {
		if name != "At" && !(name == "Name" && v.String() == "") {
			fields = append(fields, v)
		}
		if name == "Name" && v.String() != "" { // names are changed more often
			fields = append(fields, v, v, v, v)
		}
	})
	if len(fields) > 0 {
		s.set(pick(s, fields...))
	}
}

// set gives a field a value, as its type tells.
func (s *stream) set(v reflect.Value) {
	switch x := v.Addr().Interface().(type) {
	case *bool:
		*x = !*x
	case *api.Op:
		*x = s.op()
	case *api.Type:
		*x = s.kind()
	case *api.StmtKind:
		*x = s.stmtKind()
	case *api.Float:
		*x = s.float()
	case *string:
		*x = s.name()
	case *int32:
		*x = s.integer()
	case *int:
		*x = s.length()
	case *[]api.Expr:
		*x = changed(s, *x, s.anyExpr(2))
	case *[]api.Stmt:
		*x = changed(s, *x, s.anyStmt(1))
	case *[]api.Decl:
		*x = changed(s, *x, s.anyDecl())
	}
}

// changed is a list without an element, with one twice, or with one more.
func changed[T any](s *stream, l []T, other T) []T {
	l = slices.Clone(l)
	i := s.below(len(l) + 1)
	if i < len(l) && s.flip() {
		return slices.Delete(l, i, i+1)
	}
	if i < len(l) && s.flip() {
		other = l[i]
	}
	return slices.Insert(l, i, other)
}

func (s *stream) op() api.Op { return pick(s, api.Op(s.below(22)), api.Op(s.below(22)), 22, 255) }

func (s *stream) kind() api.Type { return pick[api.Type](s, 0, 1, 2, 3, 1, 2, 3, 4, 255) }

func (s *stream) stmtKind() api.StmtKind { return pick[api.StmtKind](s, 0, 1, 2, 3, 1, 2, 3, 4, 255) }

func (s *stream) float() api.Float {
	return pick(s, 0, minusNil, one, greatest, 1, plusInf, minusInf, quietNaN, otherNaN)
}

func (s *stream) name() string {
	if s.below(4) == 0 {
		return pick(s, "", "step", "in", "1a", "a b", "é", "a\xff", "a_name_that_is_just_33_bytes_long")
	}
	return pick(s, strings.Fields(theNames)...)
}

func (s *stream) integer() int32 { return pick[int32](s, 0, 1, 15, 16, -1, -1<<31, 1<<31-1) }

func (s *stream) length() int { return pick(s, 0, 1, 2, 16, 17, -1, 1<<31-1, 1<<31, -1<<63, 1<<63-1) }

// anyExpr has any fields, of so many levels at most.
func (s *stream) anyExpr(levels int) api.Expr {
	e := api.Expr{Op: s.op(), At: s.below(99), Name: s.name()}
	if s.flip() {
		e.Op = pick(s, api.OpBool, api.OpInt, api.OpFloat, api.OpName)
	}
	if s.below(4) == 0 {
		e.Bool, e.Int, e.Float = s.flip(), s.integer(), s.float()
	}
	if levels > 1 {
		for range s.below(4) {
			e.Args = append(e.Args, s.anyExpr(levels-1))
		}
	}
	return e
}

func (s *stream) anyStmt(levels int) api.Stmt {
	x := api.Stmt{Kind: s.stmtKind(), At: s.below(99), Name: s.name(), Expr: s.anyExpr(3), Lo: s.integer(), Hi: s.integer()}
	for range max(0, s.below(4)-1) {
		x.Index = append(x.Index, s.anyExpr(2))
	}
	for levels > 1 && s.flip() {
		x.Then = append(x.Then, s.anyStmt(levels-1))
	}
	for levels > 1 && s.below(3) == 0 {
		x.Else = append(x.Else, s.anyStmt(levels-1))
	}
	return x
}

func (s *stream) anyDecl() api.Decl {
	d := api.Decl{At: s.below(99), Input: s.flip(), Name: s.name(), Type: s.kind(), Range: s.flip(), Lo: s.anyExpr(2), Hi: s.anyExpr(2)}
	if s.flip() {
		d.Len = s.length()
	}
	return d
}

// any is a program of any form; at most its ticks and declarations are often valid.
func (s *stream) any() api.Program {
	p := api.Program{Ticks: pick(s, 1, 1, 1, s.length())}
	if s.flip() {
		p.Decls = s.valid().Decls
	}
	for s.below(3) == 0 {
		p.Decls = append(p.Decls, s.anyDecl())
	}
	for s.flip() {
		p.Init = append(p.Init, s.anyStmt(2))
	}
	for s.flip() {
		p.Step = append(p.Step, s.anyStmt(3))
	}
	return p
}
