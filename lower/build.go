package lower

import (
	"flyball/api"
	"flyball/conv"
)

// builder makes the code of a valid program, and knows the names that there are where it has come to.
type builder struct {
	api.Code
	names map[string]api.Ex // what each of them stands for, still without an index
}

func (b *builder) decls(list []api.Decl) {
	for _, d := range list {
		cell := cellOf(d)
		b.names[d.Name] = variable(cell, len(b.Cells))
		for i := range max(d.Len, 1) {
			cell.At = i
			b.Cells = append(b.Cells, cell)
		}
	}
}

// cellOf returns the first cell of a declaration.
func cellOf(d api.Decl) api.Cell {
	cell := api.Cell{Name: d.Name, Len: d.Len, Type: d.Type, Input: d.Input}
	switch {
	case d.Range && d.Type == api.TypeInt:
		cell.From, cell.To = d.Lo.Int, d.Hi.Int
	case d.Range:
		cell.Lo, cell.Hi = floatEnd(d.Lo), floatEnd(d.Hi)
	}
	return cell
}

// floatEnd returns an end of a range as a float.
func floatEnd(e api.Expr) api.Float {
	if e.Op == api.OpFloat {
		return e.Float
	}
	f, _ := conv.FromInt(int64(e.Int), api.Near)
	return f
}

// block returns the numbers of the statements of a block.
func (b *builder) block(list []api.Stmt) []int {
	var numbers []int
	for _, s := range list {
		numbers = append(numbers, b.stmt(s))
	}
	return numbers
}

// stmt returns the number of a statement.
func (b *builder) stmt(s api.Stmt) int {
	x := bare(s.Kind)
	x.At = s.At
	// It has its number ahead of the statements within it.
	n := len(b.Ins)
	b.Ins = append(b.Ins, x)
	switch s.Kind {
	case api.StmtAssign:
		target := b.names[s.Name]
		x.Cell, x.Len = target.Cell, target.Len
		for _, e := range s.Index {
			x.Index = b.expr(e)
		}
		x.Expr = b.expr(s.Expr)
	case api.StmtIf:
		x.Expr = b.expr(s.Expr)
		x.Then = b.block(s.Then)
		x.Else = b.block(s.Else)
	case api.StmtFor:
		x.Loop, x.Lo, x.Hi = b.Loops, s.Lo, s.Hi
		x.Then = b.body(s)
	}
	b.Ins[n] = x
	return n
}

// body returns the numbers of the statements of the next loop, where its name stands for its counter.
func (b *builder) body(s api.Stmt) []int {
	b.names[s.Name] = counter(b.Loops)
	b.Loops++
	numbers := b.block(s.Then)
	delete(b.names, s.Name)
	return numbers
}

// expr returns the number of an expression.
func (b *builder) expr(e api.Expr) int {
	var operands []int
	for _, arg := range e.Args {
		operands = append(operands, b.expr(arg))
	}
	if e.Op == api.OpName {
		b.Exs = append(b.Exs, of(b.names[e.Name], operands))
	} else {
		b.Exs = append(b.Exs, operation(b.Exs, e, operands))
	}
	return len(b.Exs) - 1
}
