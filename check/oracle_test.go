package check

import (
	"math"
	"slices"
	"strings"

	"flyball/api"
)

// This file says again what is valid, in the words of the chapter, with a table of all operations and the machine's floats: it notes all that is wrong, one after the other, and the tests hold the package against the first of it.

var theKeywords = strings.Fields("ticks input var init step if else for true false int float bool abs in")

// theLetters stand for types in the table.
var theLetters = map[api.Type]string{api.TypeBool: "b", api.TypeInt: "i", api.TypeFloat: "f"}

// theOperations tells the types of operands and of the result, for each way.
var theOperations = map[api.Op]string{
	api.OpBool: ">b", api.OpInt: ">i", api.OpFloat: ">f",
	api.OpAdd: "ii>i ff>f", api.OpSub: "ii>i ff>f", api.OpMul: "ii>i ff>f", api.OpDiv: "ii>i ff>f",
	api.OpLess: "ii>b ff>b", api.OpLessEq: "ii>b ff>b", api.OpMore: "ii>b ff>b", api.OpMoreEq: "ii>b ff>b",
	api.OpEq: "ii>b ff>b bb>b", api.OpNotEq: "ii>b ff>b bb>b",
	api.OpAnd: "bb>b", api.OpOr: "bb>b",
	api.OpNeg: "i>i f>f", api.OpAbs: "i>i f>f", api.OpNot: "b>b",
	api.OpToInt: "f>i", api.OpToFloat: "i>f",
}

// wrong is an error, and where it is.
type wrong struct {
	err api.Errno
	at  int
}

// sight is a program as far as it has been looked at.
type sight struct {
	decls []api.Decl // those that are declared so far
	loops []string   // the names of those that enclose the place
	init  bool
	found []wrong
}

// first is what the call returns.
func (v *sight) first() (api.Errno, int) {
	if len(v.found) == 0 {
		return api.OK, 0
	}
	return v.found[0].err, v.found[0].at
}

func (v *sight) note(err api.Errno, at int) { v.found = append(v.found, wrong{err, at}) }

// unless notes an error if what should hold does not, and tells whether it does.
func (v *sight) unless(holds bool, err api.Errno, at int) bool {
	if !holds {
		v.note(err, at)
	}
	return holds
}

func wantCheck(p api.Program) (api.Errno, int) {
	var v sight
	v.unless(p.Ticks > 0 && p.Ticks <= 2147483647, api.ErrCheckRange, 0)
	cells := 0
	for _, d := range p.Decls {
		v.decl(d)
		if !d.Input && d.Len > 0 {
			cells += d.Len
		} else {
			cells++
		}
		v.unless(cells <= 96, api.ErrCheckRange, d.At)
		v.decls = append(v.decls, d)
	}
	v.init = true
	v.stmts(p.Init)
	v.init = false
	v.stmts(p.Step)
	return v.first()
}

func wantTypeOf(p api.Program, e api.Expr) (api.Type, api.Errno, int) {
	v := sight{decls: p.Decls}
	t := v.expr(e)
	if err, at := v.first(); err != api.OK {
		return api.TypeNone, err, at
	}
	return t, api.OK, 0
}

func isNameSaidAgain(s string) bool {
	const first = "ABCDEFGHIJKLMNOPQRSTUVWXYZabcdefghijklmnopqrstuvwxyz_"
	return s != "" && len(s) <= 32 && strings.Contains(first, s[:1]) && strings.Trim(s, first+"0123456789") == "" && !slices.Contains(theKeywords, s)
}

// lookup finds the first declaration of a name.
func (v *sight) lookup(name string) (api.Decl, bool) {
	for _, d := range v.decls {
		if d.Name == name {
			return d, true
		}
	}
	return api.Decl{}, false
}

func (v *sight) decl(d api.Decl) {
	v.unless(isNameSaidAgain(d.Name), api.ErrCheckName, d.At)
	_, twice := v.lookup(d.Name)
	v.unless(!twice, api.ErrCheckTwice, d.At)
	v.unless(theLetters[d.Type] != "", api.ErrCheckType, d.At)
	if d.Input {
		v.unless(d.Len == 0, api.ErrCheckRange, d.At)
		v.unless(!(d.Range && d.Type == api.TypeBool), api.ErrCheckRange, d.At)
		v.unless(d.Range || d.Type == api.TypeBool, api.ErrCheckRange, d.At)
	} else {
		v.unless(!d.Range, api.ErrCheckRange, d.At)
		v.unless(d.Len >= 0, api.ErrCheckRange, d.At)
		v.unless(d.Len <= 16, api.ErrCheckRange, d.At)
	}
	if d.Input && d.Range {
		lo, isLo := end(d.Type, d.Lo)
		hi, isHi := end(d.Type, d.Hi)
		v.unless(isLo && isHi && lo <= hi, api.ErrCheckRange, d.At)
	}
}

// end is the value of an end of a range; a float holds each integer of 32 bits.
func end(t api.Type, e api.Expr) (float64, bool) {
	x := math.Float64frombits(uint64(e.Float))
	switch {
	case e.Op == api.OpInt:
		return float64(e.Int), true
	case e.Op == api.OpFloat && t == api.TypeFloat:
		return x, !math.IsNaN(x) && !math.IsInf(x, 0)
	}
	return 0, false
}

func (v *sight) stmts(list []api.Stmt) {
	for _, s := range list {
		switch s.Kind {
		case api.StmtAssign:
			v.assign(s)
		case api.StmtIf:
			t := v.expr(s.Expr)
			v.unless(t == api.TypeBool, api.ErrCheckType, s.Expr.At)
			v.stmts(s.Then)
			v.stmts(s.Else)
		case api.StmtFor:
			v.loop(s)
		default:
			v.note(api.ErrCheckType, s.At)
		}
	}
}

func (v *sight) assign(s api.Stmt) {
	d, declared := v.lookup(s.Name)
	v.unless(declared || slices.Contains(v.loops, s.Name), api.ErrCheckName, s.At)
	v.unless(declared && !d.Input, api.ErrCheckWrite, s.At)
	if d.Len != 0 {
		if v.unless(len(s.Index) == 1, api.ErrCheckIndex, s.At) {
			t := v.expr(s.Index[0])
			v.unless(t == api.TypeInt, api.ErrCheckType, s.Index[0].At)
		}
	} else {
		v.unless(len(s.Index) == 0, api.ErrCheckIndex, s.At)
	}
	t := v.expr(s.Expr)
	v.unless(t == d.Type, api.ErrCheckType, s.Expr.At)
}

func (v *sight) loop(s api.Stmt) {
	_, declared := v.lookup(s.Name)
	v.unless(isNameSaidAgain(s.Name), api.ErrCheckName, s.At)
	v.unless(!declared, api.ErrCheckTwice, s.At)
	v.unless(!slices.Contains(v.loops, s.Name), api.ErrCheckTwice, s.At)
	v.unless(float64(s.Hi)-float64(s.Lo) <= 15, api.ErrCheckRange, s.At)
	outer := v.loops
	v.loops = append(slices.Clone(outer), s.Name)
	v.unless(len(v.loops) <= 2, api.ErrCheckRange, s.At)
	v.stmts(s.Then)
	v.loops = outer
}

// expr is the type of an expression, if nothing has been found.
func (v *sight) expr(e api.Expr) api.Type {
	if e.Op == api.OpName {
		return v.name(e)
	}
	var operands []api.Type
	for _, x := range e.Args {
		operands = append(operands, v.expr(x))
	}
	t := operation(e.Op, operands)
	v.unless(t != api.TypeNone, api.ErrCheckType, e.At)
	x := math.Float64frombits(uint64(e.Float))
	if e.Op == api.OpFloat {
		v.unless(!math.IsNaN(x) && !math.IsInf(x, 0), api.ErrCheckRange, e.At)
	}
	return t
}

func (v *sight) name(e api.Expr) api.Type {
	d, declared := v.lookup(e.Name)
	if !declared {
		d.Type = api.TypeInt
		v.unless(slices.Contains(v.loops, e.Name), api.ErrCheckName, e.At)
	}
	v.unless(!(v.init && d.Input), api.ErrCheckWrite, e.At)
	if d.Len == 0 {
		v.unless(len(e.Args) == 0, api.ErrCheckIndex, e.At)
		return d.Type
	}
	if v.unless(len(e.Args) == 1, api.ErrCheckIndex, e.At) {
		t := v.expr(e.Args[0])
		v.unless(t == api.TypeInt, api.ErrCheckType, e.At)
	}
	return d.Type
}

// operation looks its operands up in the table; two of the same type are compared even if there is no such type.
func operation(op api.Op, operands []api.Type) api.Type {
	given := ""
	for _, t := range operands {
		given += theLetters[t]
	}
	if (op == api.OpEq || op == api.OpNotEq) && len(operands) == 2 && operands[0] == operands[1] {
		return api.TypeBool
	}
	if len(given) != len(operands) {
		return api.TypeNone
	}
	for _, way := range strings.Fields(theOperations[op]) {
		from, to, _ := strings.Cut(way, ">")
		for t, letter := range theLetters {
			if from == given && to == letter {
				return t
			}
		}
	}
	return api.TypeNone
}
