package lower

import (
	"flyball/api"
	"flyball/check"
)

// none stands where there is no number.
const none = -1

// bare returns a statement that has no numbers yet.
func bare(kind api.StmtKind) api.Ins {
	return api.Ins{Kind: kind, Cell: none, Index: none, Expr: none, Loop: none}
}

// variable returns the expression that is a cell by its number, or an array by that of its first cell.
func variable(cell api.Cell, number int) api.Ex {
	return api.Ex{Op: api.OpName, Type: cell.Type, A: none, B: none, Cell: number, Len: cell.Len}
}

// counter returns the expression that is the counter of a loop.
func counter(loop int) api.Ex {
	return api.Ex{Op: api.OpName, Type: api.TypeInt, A: none, B: none, Cell: none, Loop: loop + 1}
}

// operation returns an expression that is no name and has these operands, which are among exs; it has no type if there is none such.
func operation(exs []api.Ex, e api.Expr, operands []int) api.Ex {
	var types []api.Type
	for _, n := range operands {
		types = append(types, exs[n].Type)
	}
	x := api.Ex{Op: e.Op, Type: result(e, types), A: none, B: none, Cell: none}
	switch e.Op {
	case api.OpBool:
		x.Bool = e.Bool
	case api.OpInt:
		x.Int = e.Int
	case api.OpFloat:
		x.Float = e.Float
	}
	return of(x, operands)
}

// of returns an expression with its operands, of which there are two at most.
func of(x api.Ex, operands []int) api.Ex {
	if len(operands) > 0 {
		x.A = operands[0]
	}
	if len(operands) > 1 {
		x.B = operands[1]
	}
	return x
}

// result returns the type of an expression with operands of these types. A literal of its type stands for each operand, so that only one level is looked at.
func result(e api.Expr, operands []api.Type) api.Type {
	e.Args = nil
	for _, t := range operands {
		e.Args = append(e.Args, literal(t))
	}
	t, _, _ := check.TypeOf(api.Program{}, e)
	return t
}

func literal(t api.Type) api.Expr {
	switch t {
	case api.TypeBool:
		return api.Expr{Op: api.OpBool}
	case api.TypeInt:
		return api.Expr{Op: api.OpInt}
	}
	return api.Expr{Op: api.OpFloat}
}
