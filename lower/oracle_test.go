package lower

import (
	"math"
	"reflect"
	"slices"
	"strconv"

	"flyball/api"
	"flyball/check"
)

// This file says again what the code of a program is: all statements and expressions are laid in a row first, and numbers are places in these rows. And it says again what a good code is, as the chapter does: there is a program of which it is the code.

// row is a program laid out.
type row struct {
	api.Program
	stmts []*api.Stmt
	exprs []*api.Expr
	paths map[*api.Stmt][]*api.Stmt // the statements around each
	homes map[*api.Expr]*api.Stmt   // the statement of each expression
	n     map[*api.Stmt]int
	m     map[*api.Expr]int
}

// wantLower is the code of a valid program.
func wantLower(p api.Program) api.Code {
	p = unshared(reflect.ValueOf(p)).Interface().(api.Program)
	r := &row{Program: p, paths: map[*api.Stmt][]*api.Stmt{}, homes: map[*api.Expr]*api.Stmt{}, n: map[*api.Stmt]int{}, m: map[*api.Expr]int{}}
	r.lay(p.Init, nil)
	r.lay(p.Step, nil)
	for i, s := range r.stmts {
		r.n[s] = i
		for j := range s.Index {
			if s.Kind == api.StmtAssign {
				r.layExpr(&s.Index[j], s)
			}
		}
		if s.Kind != api.StmtFor {
			r.layExpr(&s.Expr, s)
		}
	}
	for i, e := range r.exprs {
		r.m[e] = i
	}
	c := api.Code{Ticks: p.Ticks, Init: r.numbers(p.Init), Step: r.numbers(p.Step), Loops: len(r.loops())}
	for _, d := range p.Decls {
		c.Cells = append(c.Cells, wantCells(d)...)
	}
	for _, s := range r.stmts {
		c.Ins = append(c.Ins, r.ins(s))
	}
	for _, e := range r.exprs {
		c.Exs = append(c.Exs, r.ex(e))
	}
	return c
}

// unshared is the same value, no two lists of which share memory, so that each part has an address of its own.
func unshared(v reflect.Value) reflect.Value {
	x := reflect.New(v.Type()).Elem()
	x.Set(v)
	switch {
	case v.Kind() == reflect.Slice && v.Len() > 0:
		x.Set(reflect.MakeSlice(v.Type(), v.Len(), v.Len()))
		for i := range v.Len() {
			x.Index(i).Set(unshared(v.Index(i)))
		}
	case v.Kind() == reflect.Struct:
		for i := range v.NumField() {
			x.Field(i).Set(unshared(v.Field(i)))
		}
	}
	return x
}

func (r *row) lay(l []api.Stmt, path []*api.Stmt) {
	for i := range l {
		s := &l[i]
		r.stmts = append(r.stmts, s)
		r.paths[s] = path
		inner := append(slices.Clone(path), s)
		if s.Kind != api.StmtAssign {
			r.lay(s.Then, inner)
		}
		if s.Kind == api.StmtIf {
			r.lay(s.Else, inner)
		}
	}
}

func (r *row) layExpr(e *api.Expr, s *api.Stmt) {
	for i := range e.Args {
		r.layExpr(&e.Args[i], s)
	}
	r.exprs = append(r.exprs, e)
	r.homes[e] = s
}

func (r *row) numbers(l []api.Stmt) []int {
	var numbers []int
	for i := range l {
		numbers = append(numbers, r.n[&l[i]])
	}
	return numbers
}

func (r *row) loops() []*api.Stmt {
	return slices.DeleteFunc(slices.Clone(r.stmts), func(s *api.Stmt) bool { return s.Kind != api.StmtFor })
}

// first is the first cell of what has this name, and how it is declared.
func (r *row) first(name string) (int, api.Decl, bool) {
	cells := 0
	for _, d := range r.Decls {
		if d.Name == name {
			return cells, d, true
		}
		cells += len(wantCells(d))
	}
	return -1, api.Decl{}, false
}

func wantCells(d api.Decl) []api.Cell {
	x := api.Cell{Name: d.Name, Len: d.Len, Type: d.Type, Input: d.Input}
	if d.Input && d.Type == api.TypeInt {
		x.From, x.To = d.Lo.Int, d.Hi.Int
	}
	if d.Input && d.Type == api.TypeFloat {
		x.Lo, x.Hi = wantEnd(d.Lo), wantEnd(d.Hi)
	}
	l := []api.Cell{x}
	for i := 1; i < d.Len; i++ {
		x.At = i
		l = append(l, x)
	}
	return l
}

// wantEnd is an end of a range; the machine's floats hold each integer of 32 bits.
func wantEnd(e api.Expr) api.Float {
	if e.Op == api.OpInt {
		return api.Float(math.Float64bits(float64(e.Int)))
	}
	return e.Float
}

func (r *row) ins(s *api.Stmt) api.Ins {
	x := api.Ins{Kind: s.Kind, At: s.At, Cell: -1, Index: -1, Expr: -1, Loop: -1}
	if s.Kind == api.StmtFor {
		x.Loop, x.Lo, x.Hi = slices.Index(r.loops(), s), s.Lo, s.Hi
		x.Then = r.numbers(s.Then)
		return x
	}
	x.Expr = r.m[&s.Expr]
	if s.Kind == api.StmtIf {
		x.Then, x.Else = r.numbers(s.Then), r.numbers(s.Else)
		return x
	}
	cell, d, _ := r.first(s.Name)
	x.Cell, x.Len = cell, d.Len
	if d.Len > 0 {
		x.Index = r.m[&s.Index[0]]
	}
	return x
}

func (r *row) ex(e *api.Expr) api.Ex {
	x := api.Ex{Op: e.Op, A: -1, B: -1, Cell: -1}
	decls := slices.Clone(r.Decls)
	for _, s := range r.paths[r.homes[e]] {
		if s.Kind == api.StmtFor {
			decls = append(decls, api.Decl{Name: s.Name, Type: api.TypeInt})
			if e.Op == api.OpName && e.Name == s.Name {
				x.Loop = slices.Index(r.loops(), s) + 1
			}
		}
	}
	x.Type, _, _ = check.TypeOf(api.Program{Decls: decls}, *e)
	for i, to := range []*int{&x.A, &x.B} {
		if i < len(e.Args) {
			*to = r.m[&e.Args[i]]
		}
	}
	switch e.Op {
	case api.OpBool:
		x.Bool = e.Bool
	case api.OpInt:
		x.Int = e.Int
	case api.OpFloat:
		x.Float = e.Float
	case api.OpName:
		cell, d, _ := r.first(e.Name)
		x.Cell, x.Len = cell, d.Len
	}
	return x
}

// lift makes the program that a code would be of, if it is good.
type lift struct {
	api.Code
	broken bool
	stmts  map[int]bool // those that have been lifted: each belongs to one block
	exprs  map[int]bool
	loops  map[int]string
	names  int // how many have been given to loops
}

func wantGood(c api.Code) bool {
	l := &lift{Code: c, stmts: map[int]bool{}, exprs: map[int]bool{}, loops: map[int]string{}}
	p := api.Program{Ticks: c.Ticks, Decls: l.decls(), Init: l.block(c.Init), Step: l.block(c.Step)}
	if l.broken {
		return false
	}
	again, err, _ := Lower(p)
	return err == api.OK && sameCode(again, c)
}

func (l *lift) decls() []api.Decl {
	var decls []api.Decl
	for i := 0; i < len(l.Cells); i++ {
		x := l.Cells[i]
		d := api.Decl{Name: x.Name, Len: x.Len, Type: x.Type, Input: x.Input}
		d.Range = x.Input && x.Type != api.TypeBool
		if d.Range && x.Type == api.TypeInt {
			d.Lo, d.Hi = api.Expr{Op: api.OpInt, Int: x.From}, api.Expr{Op: api.OpInt, Int: x.To}
		} else if d.Range {
			d.Lo, d.Hi = api.Expr{Op: api.OpFloat, Float: x.Lo}, api.Expr{Op: api.OpFloat, Float: x.Hi}
		}
		decls = append(decls, d)
		if 1 < x.Len && x.Len <= 16 {
			i += x.Len - 1
		}
	}
	return decls
}

// once tells whether there is a number in a list, for the first time.
func (l *lift) once(seen map[int]bool, n, all int) bool {
	if n < 0 || n >= all || seen[n] {
		l.broken = true
		return false
	}
	seen[n] = true
	return true
}

// cell is the name of a cell.
func (l *lift) cell(n int) string {
	if n < 0 || n >= len(l.Cells) {
		l.broken = true
		return ""
	}
	return l.Cells[n].Name
}

func (l *lift) block(numbers []int) []api.Stmt {
	var list []api.Stmt
	for _, n := range numbers {
		if l.broken || !l.once(l.stmts, n, len(l.Ins)) {
			return nil
		}
		list = append(list, l.stmt(l.Ins[n]))
	}
	return list
}

func (l *lift) stmt(x api.Ins) api.Stmt {
	s := api.Stmt{Kind: x.Kind, At: x.At, Lo: x.Lo, Hi: x.Hi}
	switch x.Kind {
	case api.StmtAssign:
		s.Name = l.cell(x.Cell)
		if x.Index != -1 {
			s.Index = []api.Expr{l.expr(x.Index)}
		}
		s.Expr = l.expr(x.Expr)
	case api.StmtIf:
		s.Expr = l.expr(x.Expr)
	case api.StmtFor:
		s.Name = l.fresh()
		l.loops[x.Loop] = s.Name
	}
	s.Then, s.Else = l.block(x.Then), l.block(x.Else)
	return s
}

// fresh is a name that nothing else has.
func (l *lift) fresh() string {
	for {
		l.names++
		name := "loop" + strconv.Itoa(l.names)
		if !slices.ContainsFunc(l.Cells, func(x api.Cell) bool { return x.Name == name }) {
			return name
		}
	}
}

func (l *lift) expr(n int) api.Expr {
	if l.broken || !l.once(l.exprs, n, len(l.Exs)) {
		return api.Expr{}
	}
	x := l.Exs[n]
	e := api.Expr{Op: x.Op, Bool: x.Bool, Int: x.Int, Float: x.Float}
	if x.Op == api.OpName && x.Loop > 0 {
		e.Name = l.loops[x.Loop-1]
	} else if x.Op == api.OpName {
		e.Name = l.cell(x.Cell)
	}
	for _, operand := range []int{x.A, x.B} {
		if operand != -1 {
			e.Args = append(e.Args, l.expr(operand))
		}
	}
	return e
}

// sameCode: two codes are the same but for At of statements, and for lists that are nil or empty.
func sameCode(a, b api.Code) bool {
	return a.Ticks == b.Ticks && a.Loops == b.Loops && slices.Equal(a.Cells, b.Cells) && slices.Equal(a.Exs, b.Exs) && slices.Equal(a.Init, b.Init) && slices.Equal(a.Step, b.Step) &&
		slices.EqualFunc(a.Ins, b.Ins, func(x, y api.Ins) bool {
			return x.Kind == y.Kind && x.Cell == y.Cell && x.Len == y.Len && x.Index == y.Index && x.Expr == y.Expr && x.Loop == y.Loop && x.Lo == y.Lo && x.Hi == y.Hi && slices.Equal(x.Then, y.Then) && slices.Equal(x.Else, y.Else)
		})
}

// identical: two codes are the same in At of statements, too.
func identical(a, b api.Code) bool {
	return sameCode(a, b) && slices.EqualFunc(a.Ins, b.Ins, func(x, y api.Ins) bool { return x.At == y.At })
}
