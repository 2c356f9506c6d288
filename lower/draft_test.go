package lower

import (
	"slices"
	"strings"

	"flyball/api"
)

// This file makes valid programs, in which fields that have no meaning where they are hold anything.

// stream makes words from a fixed start, so that a failure can be had again.
type stream uint64

func (s *stream) next() uint64 {
	x := uint64(*s)
	x ^= x << 13
	x ^= x >> 7
	x ^= x << 17
	*s = stream(x)
	return x * 0x2545f4914f6cdd1d
}

func (s *stream) below(n int) int { return int(s.next() >> 32 % uint64(n)) }

func (s *stream) flip() bool { return s.below(2) == 0 }

func pick[T any](s *stream, l ...T) T { return l[s.below(len(l))] }

// flow is an operation with the types of its operands and its own.
type flow struct {
	op   api.Op
	from []api.Type
	to   api.Type
}

// theFlows are all operations, the literals among them.
func theFlows() []flow {
	const b, i, f = api.TypeBool, api.TypeInt, api.TypeFloat
	l := []flow{{api.OpBool, nil, b}, {api.OpInt, nil, i}, {api.OpFloat, nil, f}, {api.OpNot, []api.Type{b}, b}, {api.OpToInt, []api.Type{f}, i}, {api.OpToFloat, []api.Type{i}, f}}
	for _, op := range []api.Op{api.OpAnd, api.OpOr, api.OpEq, api.OpNotEq} {
		l = append(l, flow{op, []api.Type{b, b}, b})
	}
	for _, n := range []api.Type{i, f} {
		for _, op := range []api.Op{api.OpAdd, api.OpSub, api.OpMul, api.OpDiv} {
			l = append(l, flow{op, []api.Type{n, n}, n})
		}
		for _, op := range []api.Op{api.OpLess, api.OpLessEq, api.OpEq, api.OpNotEq, api.OpMore, api.OpMoreEq} {
			l = append(l, flow{op, []api.Type{n, n}, b})
		}
		l = append(l, flow{api.OpNeg, []api.Type{n}, n}, flow{api.OpAbs, []api.Type{n}, n})
	}
	return l
}

const theNames = "a b v x1 _ IF inn e5 i j k n u Z9 tick a_name_that_is_just_32_bytes_lon"

func (s *stream) name() string { return pick(s, strings.Fields(theNames)...) }

func (s *stream) integer() int32 { return pick[int32](s, 0, 1, 15, 16, -1, -1<<31, 1<<31-1) }

const (
	minusNil api.Float = 1 << 63
	plusInf  api.Float = 0x7ff0000000000000
	minusInf api.Float = 0xfff0000000000000
	quietNaN api.Float = 0x7ff8000000000000
	greatest api.Float = 0x7fefffffffffffff
	one      api.Float = 0x3ff0000000000000
)

// float is finite.
func (s *stream) float() api.Float {
	return pick(s, 0, minusNil, one, greatest, greatest|minusNil, 1)
}

// draft makes a valid program; what it has declared it uses.
type draft struct {
	*stream
	clutter bool // in fields that have no meaning
	decls   []api.Decl
	loops   []string
	init    bool
}

// valid is a program with statements within one another, at most so many levels deep.
func (s *stream) valid(levels int) api.Program {
	d := &draft{stream: s, clutter: s.flip()}
	p := api.Program{Ticks: pick(s, 1, 2, 100, 2147483647)}
	cells := 0
	for range s.below(10) {
		x := d.decl()
		if size := max(x.Len, 1); cells+size <= 96 {
			cells += size
			d.decls = append(d.decls, x)
		}
	}
	p.Decls = slices.Clone(d.decls)
	d.init = true
	p.Init = d.stmts(levels)
	d.init = false
	p.Step = d.stmts(levels)
	return p
}

func (d *draft) place() int { return pick(d.stream, d.below(1000), -1, -1<<63, 1<<63-1) }

func (d *draft) decl() api.Decl {
	x := api.Decl{At: d.place(), Name: d.fresh(), Type: pick(d.stream, api.TypeBool, api.TypeInt, api.TypeFloat), Input: d.below(3) == 0}
	if d.clutter {
		x.Lo, x.Hi = d.junk(1), d.junk(2)
	}
	switch {
	case !x.Input:
		x.Len = pick(d.stream, 0, 0, 1, 2, 16)
	case x.Type == api.TypeInt:
		x.Range = true
		x.Lo.Op, x.Lo.Int = api.OpInt, pick[int32](d.stream, -1<<31, -5, 0)
		x.Hi.Op, x.Hi.Int = api.OpInt, pick[int32](d.stream, 0, 7, 1<<31-1)
	case x.Type == api.TypeFloat:
		x.Range = true
		x.Lo.Op, x.Lo.Int, x.Lo.Float = pick(d.stream, api.OpInt, api.OpFloat), pick[int32](d.stream, -1<<31, -1, 0), pick(d.stream, 0, minusNil, one|minusNil, greatest|minusNil)
		x.Hi.Op, x.Hi.Int, x.Hi.Float = pick(d.stream, api.OpInt, api.OpFloat), pick[int32](d.stream, 0, 3, 1<<31-1), pick(d.stream, 0, minusNil, 1, one, greatest)
	}
	return x
}

// fresh is a name that is not in use here.
func (d *draft) fresh() string {
	for {
		name := d.name()
		if !slices.Contains(d.loops, name) && !slices.ContainsFunc(d.decls, func(x api.Decl) bool { return x.Name == name }) {
			return name
		}
	}
}

func (d *draft) stmts(levels int) []api.Stmt {
	var l []api.Stmt
	for range d.below(4) {
		l = append(l, d.stmt(levels))
	}
	return l
}

func (d *draft) stmt(levels int) api.Stmt {
	s := api.Stmt{At: d.place()}
	if d.clutter {
		s.Name, s.Lo, s.Hi, s.Expr = d.name(), d.integer(), d.integer(), d.junk(2)
		s.Index, s.Then, s.Else = []api.Expr{d.junk(1)}, []api.Stmt{{}, {At: 3}}, []api.Stmt{{Kind: api.StmtFor}}
	}
	vars := slices.DeleteFunc(slices.Clone(d.decls), func(x api.Decl) bool { return x.Input })
	way := d.below(6)
	switch {
	case way == 0 && levels > 1 && len(d.loops) < 2:
		return d.loop(s, levels)
	case way < 3 && levels > 1 || len(vars) == 0:
		s.Kind, s.Expr, s.Then, s.Else = api.StmtIf, d.expr(api.TypeBool, 3), nil, nil
		if levels > 1 {
			s.Then, s.Else = d.stmts(levels-1), d.stmts(levels-1)
		}
		return s
	}
	x := pick(d.stream, vars...)
	s.Kind, s.Name, s.Index, s.Expr = api.StmtAssign, x.Name, nil, d.expr(x.Type, 4)
	if x.Len > 0 {
		s.Index = []api.Expr{d.expr(api.TypeInt, 3)}
	}
	return s
}

func (d *draft) loop(s api.Stmt, levels int) api.Stmt {
	s.Kind, s.Name, s.Lo = api.StmtFor, d.fresh(), pick[int32](d.stream, 0, -3, 5, 1<<31-16, -1<<31)
	s.Hi = s.Lo + pick[int32](d.stream, 0, 1, 15)
	if s.Lo >= 0 && d.below(3) == 0 {
		s.Hi = pick[int32](d.stream, -1, -1<<31)
	}
	outer := d.loops
	d.loops = append(slices.Clone(outer), s.Name)
	s.Then = d.stmts(levels - 1)
	d.loops = outer
	return s
}

// expr is an expression of this type, of so many levels at most.
func (d *draft) expr(t api.Type, levels int) api.Expr {
	if d.below(3) > 0 {
		if e, ok := d.read(t, levels); ok {
			return e
		}
	}
	flows := slices.DeleteFunc(theFlows(), func(f flow) bool {
		return f.to != t || levels == 1 && len(f.from) > 0
	})
	f := pick(d.stream, flows...)
	e := d.blank()
	e.Op = f.op
	if f.op == api.OpFloat || !d.clutter {
		e.Float = d.float()
	}
	for _, operand := range f.from {
		e.Args = append(e.Args, d.expr(operand, levels-1))
	}
	return e
}

// read is an expression that reads a variable, an input or the counter of a loop, if there is one of this type.
func (d *draft) read(t api.Type, levels int) (api.Expr, bool) {
	e := d.blank()
	e.Op = api.OpName
	if t == api.TypeInt && len(d.loops) > 0 && d.below(3) == 0 {
		e.Name = pick(d.stream, d.loops...)
		return e, true
	}
	decls := slices.DeleteFunc(slices.Clone(d.decls), func(x api.Decl) bool {
		return x.Type != t || x.Input && d.init || x.Len > 0 && levels == 1
	})
	if len(decls) == 0 {
		return api.Expr{}, false
	}
	x := pick(d.stream, decls...)
	e.Name = x.Name
	if x.Len > 0 {
		e.Args = []api.Expr{d.expr(api.TypeInt, levels-1)}
	}
	return e, true
}

// blank has no operation, and, if there is clutter, all of what an operation may need.
func (d *draft) blank() api.Expr {
	e := api.Expr{At: d.place(), Bool: d.flip(), Int: d.integer()}
	if d.clutter {
		e.Float, e.Name = pick(d.stream, one, plusInf, quietNaN), d.name()
	}
	return e
}

// junk is an expression of any form.
func (d *draft) junk(levels int) api.Expr {
	e := d.blank()
	e.Op = api.Op(d.below(24))
	for levels > 1 && d.flip() {
		e.Args = append(e.Args, d.junk(levels-1))
	}
	return e
}
