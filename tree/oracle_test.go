package tree

import (
	"fmt"
	"reflect"
	"strings"

	"flyball/api"
	"flyball/deci"
)

// This file says again what the text, the counts and sameness are, in the words of the chapter, by forms, lists of lines and reflection: the tests hold the package against it.

var theSigns = map[api.Op]string{
	api.OpAdd: "+", api.OpSub: "-", api.OpMul: "*", api.OpDiv: "/",
	api.OpLess: "<", api.OpLessEq: "<=", api.OpEq: "==", api.OpNotEq: "!=", api.OpMore: ">", api.OpMoreEq: ">=",
	api.OpAnd: "&&", api.OpOr: "||",
}

func wantText(e api.Expr) string {
	operands := append(e.Args[:len(e.Args):len(e.Args)], api.Expr{}, api.Expr{})
	first, second := wantText1(operands[0]), wantText1(operands[1])
	bare := ""
	if len(e.Args) > 0 {
		bare = wantText(e.Args[0])
	}
	switch e.Op {
	case api.OpBool:
		return fmt.Sprint(e.Bool)
	case api.OpInt:
		return fmt.Sprintf("%d", e.Int)
	case api.OpFloat:
		return deci.Print(e.Float)
	case api.OpName:
		if len(e.Args) == 0 {
			return e.Name
		}
		return fmt.Sprintf("%s[%s]", e.Name, bare)
	case api.OpToInt:
		return fmt.Sprintf("int(%s)", bare)
	case api.OpToFloat:
		return fmt.Sprintf("float(%s)", bare)
	case api.OpAbs:
		return fmt.Sprintf("abs(%s)", bare)
	case api.OpNeg:
		return "-" + first
	case api.OpNot:
		return "!" + first
	}
	if sign, ok := theSigns[e.Op]; ok {
		return fmt.Sprintf("%s %s %s", first, sign, second)
	}
	return ""
}

// wantText1 is the text of an operand of an operator.
func wantText1(e api.Expr) string {
	if e.Op == 0 {
		return ""
	}
	if _, ok := theSigns[e.Op]; ok {
		return fmt.Sprintf("(%s)", wantText(e))
	}
	return wantText(e)
}

func wantPrint(p api.Program) string {
	lines := []string{fmt.Sprintf("ticks %d;", p.Ticks)}
	for _, d := range p.Decls {
		line := fmt.Sprintf("%s %s: %s", map[bool]string{true: "input", false: "var"}[d.Input], d.Name, map[api.Type]string{1: "bool", 2: "int", 3: "float"}[d.Type])
		if d.Len > 0 {
			line += fmt.Sprintf("[%d]", d.Len)
		}
		if d.Range {
			line += fmt.Sprintf(" in [%s, %s]", wantText(d.Lo), wantText(d.Hi))
		}
		lines = append(lines, line+";")
	}
	lines = append(append(append(lines, "init {"), wantBlock(p.Init)...), "}")
	lines = append(append(append(lines, "step {"), wantBlock(p.Step)...), "}")
	return strings.Join(lines, "\n") + "\n"
}

// wantBlock returns the lines within a block.
func wantBlock(list []api.Stmt) []string {
	var lines []string
	for _, s := range list {
		for _, line := range wantStmt(s) {
			lines = append(lines, "\t"+line)
		}
	}
	return lines
}

func wantStmt(s api.Stmt) []string {
	switch s.Kind {
	case api.StmtAssign:
		index := ""
		if len(s.Index) > 0 {
			index = fmt.Sprintf("[%s]", wantText(s.Index[0]))
		}
		return []string{fmt.Sprintf("%s%s = %s;", s.Name, index, wantText(s.Expr))}
	case api.StmtIf:
		lines := append([]string{fmt.Sprintf("if %s {", wantText(s.Expr))}, wantBlock(s.Then)...)
		if len(s.Else) > 0 {
			lines = append(append(lines, "} else {"), wantBlock(s.Else)...)
		}
		return append(lines, "}")
	case api.StmtFor:
		lines := append([]string{fmt.Sprintf("for %s = %d .. %d {", s.Name, s.Lo, s.Hi)}, wantBlock(s.Then)...)
		return append(lines, "}")
	}
	return nil
}

// wantCount counts what there is of both types, but for declarations and the expressions that statements of other kinds have.
func wantCount(p api.Program) (int, int) {
	stmts, exprs := 0, 0
	var walk func(v reflect.Value)
	walk = func(v reflect.Value) {
		switch x := v.Interface().(type) {
		case api.Decl:
			return
		case api.Stmt:
			stmts++
			if x.Kind != api.StmtAssign && x.Kind != api.StmtIf {
				exprs -= size(x.Expr)
			}
		case api.Expr:
			exprs++
		}
		eachPart(v, walk)
	}
	walk(reflect.ValueOf(p))
	return stmts, exprs
}

// size is how many expressions there are in one.
func size(e api.Expr) int {
	n := 1
	for _, x := range e.Args {
		n += size(x)
	}
	return n
}

// eachPart visits the fields of a struct, or the elements of a list.
func eachPart(v reflect.Value, visit func(reflect.Value)) {
	switch v.Kind() {
	case reflect.Struct:
		for i := range v.NumField() {
			visit(v.Field(i))
		}
	case reflect.Slice:
		for i := range v.Len() {
			visit(v.Index(i))
		}
	}
}

// copyOf is a copy that shares no memory with x; each At is what at says, and a list without elements is nil or empty as empty says.
func copyOf[T any](x T, at func() int, empty func() bool) T {
	var fill func(to, from reflect.Value)
	fill = func(to, from reflect.Value) {
		switch {
		case from.Kind() == reflect.Struct:
			for i := range from.NumField() {
				if from.Type().Field(i).Name == "At" {
					to.Field(i).SetInt(int64(at()))
				} else {
					fill(to.Field(i), from.Field(i))
				}
			}
		case from.Kind() != reflect.Slice:
			to.Set(from)
		case from.Len() > 0 || empty():
			to.Set(reflect.MakeSlice(from.Type(), from.Len(), from.Len()))
			for i := range from.Len() {
				fill(to.Index(i), from.Index(i))
			}
		}
	}
	v := reflect.New(reflect.TypeOf(x)).Elem()
	fill(v, reflect.ValueOf(x))
	return v.Interface().(T)
}

// plain is a copy without places and without lists that are empty but not nil.
func plain[T any](x T) T {
	return copyOf(x, func() int { return 0 }, func() bool { return false })
}

// moved is a copy that differs only in what does not count.
func moved[T any](s *stream, x T) T {
	return copyOf(x, func() int { return s.below(100) - 50 }, func() bool { return s.below(2) == 0 })
}

func wantSame[T any](a, b T) bool { return reflect.DeepEqual(plain(a), plain(b)) }

// stream makes words from a fixed start, so that a failure can be had again.
type stream uint64

func (s *stream) next() uint64 {
	x := uint64(*s)
	x ^= x << 13
	x ^= x >> 7
	x ^= x << 17
	*s = stream(x)
	return x * 0x2545f4914f6cdd1d
}

func (s *stream) below(n int) int { return int(s.next() >> 32 % uint64(n)) }

func pick[T any](s *stream, l ...T) T { return l[s.below(len(l))] }

func (s *stream) name() string { return pick(s, "", "a", "b", "x1", "a\n", "é\xff") }

func (s *stream) number() int32 { return pick[int32](s, 0, 1, -1, 12, 1<<31-1, -1<<31) }

func (s *stream) float() api.Float {
	return pick[api.Float](s, 0, 1<<63, 0x3fb999999999999a, 0xbff0000000000000, 1, 0x7ff0000000000000, 0x7ff8000000000000)
}

// expr is any expression, of so many levels at most: each field may be set, whatever its operation.
func (s *stream) expr(levels int) api.Expr {
	e := api.Expr{Op: api.Op(s.below(24)), At: s.below(9), Bool: s.below(2) == 0, Int: s.number(), Float: s.float(), Name: s.name()}
	if s.below(20) == 0 {
		e.Op = 255
	}
	if levels > 1 {
		e.Args = s.exprs(levels-1, 4)
	}
	return e
}

func (s *stream) exprs(levels, below int) []api.Expr {
	l := make([]api.Expr, s.below(below))
	for i := range l {
		l[i] = s.expr(levels)
	}
	return l
}

func (s *stream) stmts(levels, below int) []api.Stmt {
	l := make([]api.Stmt, s.below(below))
	for i := range l {
		l[i] = api.Stmt{Kind: pick[api.StmtKind](s, 0, 1, 1, 2, 2, 2, 3, 3, 4, 255), At: s.below(9), Name: s.name(), Index: s.exprs(2, 3), Expr: s.expr(3), Lo: s.number(), Hi: s.number()}
		if levels > 1 {
			l[i].Then, l[i].Else = s.stmts(levels-1, 4), s.stmts(levels-1, 3)
		}
	}
	return l
}

// program is any program.
func (s *stream) program() api.Program {
	p := api.Program{Ticks: pick(s, 0, 1, 100, -7), Init: s.stmts(2, 3), Step: s.stmts(4, 4)}
	for range s.below(4) {
		p.Decls = append(p.Decls, api.Decl{At: s.below(9), Input: s.below(2) == 0, Name: s.name(), Type: api.Type(s.below(5)), Len: s.below(5) - 2, Range: s.below(2) == 0, Lo: s.expr(2), Hi: s.expr(2)})
	}
	return p
}

// small is one of few expressions, so that two of them are often the same.
func (s *stream) small(levels int) api.Expr {
	e := api.Expr{Op: pick(s, api.OpInt, api.OpName, api.OpSub), At: s.below(9), Name: pick(s, "", "", "a")}
	if s.below(8) == 0 {
		e.Int, e.Bool, e.Float = 1, s.below(2) == 0, api.Float(s.below(2))
	}
	if levels > 1 {
		for range s.below(3) {
			e.Args = append(e.Args, s.small(levels-1))
		}
	}
	return e
}
