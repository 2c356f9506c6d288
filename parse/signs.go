package parse

import "flyball/api"

// The functions below return OpNone for what has no operation in their rule.

func orSign(text string) api.Op {
	if text == "||" {
		return api.OpOr
	}
	return api.OpNone
}

func andSign(text string) api.Op {
	if text == "&&" {
		return api.OpAnd
	}
	return api.OpNone
}

func cmpSign(text string) api.Op {
	switch text {
	case "<":
		return api.OpLess
	case "<=":
		return api.OpLessEq
	case "==":
		return api.OpEq
	case "!=":
		return api.OpNotEq
	case ">":
		return api.OpMore
	case ">=":
		return api.OpMoreEq
	}
	return api.OpNone
}

func sumSign(text string) api.Op {
	switch text {
	case "+":
		return api.OpAdd
	case "-":
		return api.OpSub
	}
	return api.OpNone
}

func prodSign(text string) api.Op {
	switch text {
	case "*":
		return api.OpMul
	case "/":
		return api.OpDiv
	}
	return api.OpNone
}

func unarySign(text string) api.Op {
	switch text {
	case "-":
		return api.OpNeg
	case "!":
		return api.OpNot
	}
	return api.OpNone
}

// atomOp returns the operation that an atom's first token tells.
func atomOp(t api.Token) api.Op {
	switch t.Kind {
	case api.KindInt:
		return api.OpInt
	case api.KindFloat:
		return api.OpFloat
	case api.KindName:
		return api.OpName
	}
	switch t.Text {
	case "true", "false":
		return api.OpBool
	case "int":
		return api.OpToInt
	case "float":
		return api.OpToFloat
	case "abs":
		return api.OpAbs
	}
	return api.OpNone
}
