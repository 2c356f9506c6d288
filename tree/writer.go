package tree

import (
	"strconv"
	"strings"

	"flyball/api"
	"flyball/deci"
)

// signs are those of the operations from api.OpAdd to api.OpOr.
var signs = [...]string{"+", "-", "*", "/", "<", "<=", "==", "!=", ">", ">=", "&&", "||"}

// writer collects a text.
type writer struct {
	strings.Builder
	depth int // how many blocks contain the line
}

func (w *writer) program(p api.Program) {
	w.WriteString("ticks ")
	w.integer(p.Ticks)
	w.WriteString(";\n")
	for _, d := range p.Decls {
		w.decl(d)
	}
	w.WriteString("init")
	w.block(p.Init)
	w.WriteString("\nstep")
	w.block(p.Step)
	w.WriteString("\n")
}

func (w *writer) decl(d api.Decl) {
	if d.Input {
		w.WriteString("input ")
	} else {
		w.WriteString("var ")
	}
	w.WriteString(d.Name)
	w.WriteString(": ")
	w.WriteString(typeName(d.Type))
	if d.Len > 0 {
		w.WriteString("[")
		w.integer(d.Len)
		w.WriteString("]")
	}
	if d.Range {
		w.bounds(d.Lo, d.Hi)
	}
	w.WriteString(";\n")
}

// bounds writes the range of an input.
func (w *writer) bounds(lo, hi api.Expr) {
	w.WriteString(" in [")
	defer w.WriteString("]")
	w.expr(lo)
	w.WriteString(", ")
	w.expr(hi)
}

// typeName returns the keyword of a type; the empty string if there is none.
func typeName(t api.Type) string {
	switch t {
	case api.TypeBool:
		return "bool"
	case api.TypeInt:
		return "int"
	case api.TypeFloat:
		return "float"
	}
	return ""
}

// block writes what follows the head of a block in its line, the statements, and the closing bracket, but not the end of its line, since an else may follow there.
func (w *writer) block(list []api.Stmt) {
	w.WriteString(" {\n")
	w.depth++
	for _, s := range list {
		w.stmt(s)
	}
	w.depth--
	w.indent()
	w.WriteString("}")
}

func (w *writer) stmt(s api.Stmt) {
	switch s.Kind {
	case api.StmtAssign:
		w.assign(s)
	case api.StmtIf:
		w.choice(s)
	case api.StmtFor:
		w.loop(s)
	}
}

func (w *writer) assign(s api.Stmt) {
	w.indent()
	w.place(s.Name, s.Index)
	w.WriteString(" = ")
	w.expr(s.Expr)
	w.WriteString(";\n")
}

func (w *writer) choice(s api.Stmt) {
	w.indent()
	w.WriteString("if ")
	w.expr(s.Expr)
	w.block(s.Then)
	if len(s.Else) > 0 {
		w.WriteString(" else")
		w.block(s.Else)
	}
	w.WriteString("\n")
}

func (w *writer) loop(s api.Stmt) {
	w.indent()
	w.WriteString("for ")
	w.WriteString(s.Name)
	w.WriteString(" = ")
	w.integer(int(s.Lo))
	w.WriteString(" .. ")
	w.integer(int(s.Hi))
	w.block(s.Then)
	w.WriteString("\n")
}

func (w *writer) indent() {
	for range w.depth {
		w.WriteByte('\t')
	}
}

func (w *writer) integer(n int) {
	w.WriteString(strconv.Itoa(n))
}

func (w *writer) expr(e api.Expr) {
	switch e.Op {
	case api.OpBool:
		w.WriteString(strconv.FormatBool(e.Bool))
	case api.OpInt:
		w.integer(int(e.Int))
	case api.OpFloat:
		w.WriteString(deci.Print(e.Float))
	case api.OpName:
		w.place(e.Name, e.Args)
	case api.OpToInt:
		w.enclosed("int(", arg(e, 0), ")")
	case api.OpToFloat:
		w.enclosed("float(", arg(e, 0), ")")
	case api.OpAbs:
		w.enclosed("abs(", arg(e, 0), ")")
	case api.OpNeg:
		w.WriteString("-")
		w.operand(arg(e, 0))
	case api.OpNot:
		w.WriteString("!")
		w.operand(arg(e, 0))
	default:
		w.binary(e)
	}
}

// binary writes an operation of two operands; nothing if it is none.
func (w *writer) binary(e api.Expr) {
	if !isBinary(e.Op) {
		return
	}
	w.operand(arg(e, 0))
	w.WriteString(" ")
	w.WriteString(signs[e.Op-api.OpAdd])
	w.WriteString(" ")
	w.operand(arg(e, 1))
}

// operand writes an operand of an operator; between brackets if it has a sign between its own operands.
func (w *writer) operand(e api.Expr) {
	if isBinary(e.Op) {
		w.enclosed("(", e, ")")
	} else {
		w.expr(e)
	}
}

// place writes a name, and its index if it has one.
func (w *writer) place(name string, index []api.Expr) {
	w.WriteString(name)
	if len(index) > 0 {
		w.enclosed("[", index[0], "]")
	}
}

// enclosed writes an expression between two brackets.
func (w *writer) enclosed(opening string, e api.Expr, closing string) {
	w.WriteString(opening)
	defer w.WriteString(closing)
	w.expr(e)
}

// arg returns an operand; if it is missing, the zero expression, whose text is empty as well.
func arg(e api.Expr, i int) api.Expr {
	if i < len(e.Args) {
		return e.Args[i]
	}
	return api.Expr{}
}

func isBinary(op api.Op) bool {
	return api.OpAdd <= op && op <= api.OpOr
}
