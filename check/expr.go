package check

import "flyball/api"

// expect checks an expression that must be of this type.
func (c *checker) expect(e api.Expr, t api.Type) {
	must(c.expr(e) == t, api.ErrCheckType, e.At)
}

// expr returns the type of an expression.
func (c *checker) expr(e api.Expr) api.Type {
	if e.Op == api.OpName {
		return c.name(e)
	}
	t := result(e.Op, c.types(e.Args))
	must(t != api.TypeNone, api.ErrCheckType, e.At)
	must(e.Op != api.OpFloat || isFinite(e.Float), api.ErrCheckRange, e.At)
	return t
}

// name returns the type of what a name stands for; unlike other operands, its index is checked only behind the name.
func (c *checker) name(e api.Expr) api.Type {
	m := c.find(e.Name, e.At)
	must(m.use != input || !c.starting, api.ErrCheckWrite, e.At)
	must(len(e.Args) == m.indexes(), api.ErrCheckIndex, e.At)
	for _, t := range c.types(e.Args) {
		must(t == api.TypeInt, api.ErrCheckType, e.At)
	}
	return m.kind
}

// types returns the types of operands, from left to right.
func (c *checker) types(operands []api.Expr) []api.Type {
	var list []api.Type
	for _, e := range operands {
		list = append(list, c.expr(e))
	}
	return list
}

// result returns the type that an operation has with operands of these types; TypeNone if there is no such operation.
func result(op api.Op, operands []api.Type) api.Type {
	switch {
	case len(operands) == 0:
		return literal(op)
	case len(operands) == 1:
		return unary(op, operands[0])
	case len(operands) == 2 && operands[0] == operands[1]:
		return binary(op, operands[0])
	}
	return api.TypeNone
}

func literal(op api.Op) api.Type {
	switch op {
	case api.OpBool:
		return api.TypeBool
	case api.OpInt:
		return api.TypeInt
	case api.OpFloat:
		return api.TypeFloat
	}
	return api.TypeNone
}

func unary(op api.Op, t api.Type) api.Type {
	switch {
	case (op == api.OpNeg || op == api.OpAbs) && isNumeric(t):
		return t
	case op == api.OpNot && t == api.TypeBool:
		return api.TypeBool
	case op == api.OpToInt && t == api.TypeFloat:
		return api.TypeInt
	case op == api.OpToFloat && t == api.TypeInt:
		return api.TypeFloat
	}
	return api.TypeNone
}

// binary returns the type of an operation whose two operands are of one type, as all need them.
func binary(op api.Op, t api.Type) api.Type {
	switch op {
	case api.OpAdd, api.OpSub, api.OpMul, api.OpDiv:
		if isNumeric(t) {
			return t
		}
	case api.OpLess, api.OpLessEq, api.OpMore, api.OpMoreEq:
		if isNumeric(t) {
			return api.TypeBool
		}
	case api.OpEq, api.OpNotEq:
		return api.TypeBool
	case api.OpAnd, api.OpOr:
		if t == api.TypeBool {
			return api.TypeBool
		}
	}
	return api.TypeNone
}
