package parse

import "flyball/api"

// single reads an expression behind which nothing comes.
func (r *reader) single() api.Expr {
	e := r.expr()
	r.expectEnd()
	return e
}

func (r *reader) expr() api.Expr { return r.chain(r.and, orSign) }

func (r *reader) and() api.Expr { return r.chain(r.cmp, andSign) }

// cmp is no chain: a comparison is not compared again.
func (r *reader) cmp() api.Expr {
	e := r.sum()
	if op := cmpSign(r.next().Text); op != api.OpNone {
		e = r.binary(op, e, r.sum)
	}
	return e
}

func (r *reader) sum() api.Expr { return r.chain(r.prod, sumSign) }

func (r *reader) prod() api.Expr { return r.chain(r.unary, prodSign) }

// chain reads operands with signs of one rule between them, from left to right; sign returns a sign's operation, OpNone if it belongs to another rule.
func (r *reader) chain(operand func() api.Expr, sign func(string) api.Op) api.Expr {
	e := operand()
	for {
		op := sign(r.next().Text)
		if op == api.OpNone {
			return e
		}
		e = r.binary(op, e, operand)
	}
}

// binary reads a sign and its second operand.
func (r *reader) binary(op api.Op, first api.Expr, operand func() api.Expr) api.Expr {
	at := r.take().At
	second := operand()
	return r.complete(api.Expr{Op: op, At: at, Args: []api.Expr{first, second}})
}

func (r *reader) unary() api.Expr {
	op := unarySign(r.next().Text)
	if op == api.OpNone {
		return r.atom()
	}
	e := api.Expr{Op: op, At: r.next().At}
	r.deeper(func() {
		r.take()
		e.Args = []api.Expr{r.unary()}
	})
	return r.complete(e)
}

func (r *reader) atom() api.Expr {
	if r.sees("(") {
		return r.bracketed()
	}
	t := r.next()
	e := api.Expr{Op: atomOp(t), At: t.At}
	if e.Op == api.OpNone {
		r.refuse()
	}
	r.take()
	switch e.Op {
	case api.OpBool:
		e.Bool = t.Text == "true"
	case api.OpInt:
		e.Int = t.Int
	case api.OpFloat:
		e.Float = t.Float
	case api.OpName:
		e.Name = t.Text
		e.Args = r.index()
	default:
		e.Args = []api.Expr{r.bracketed()}
	}
	return r.complete(e)
}

// bracketed reads an expression between brackets, of which the tree keeps nothing.
func (r *reader) bracketed() api.Expr {
	var e api.Expr
	r.enclosed("(", ")", func() { e = r.expr() })
	return e
}

// index reads the index behind a name, if there is one.
func (r *reader) index() []api.Expr {
	var list []api.Expr
	if r.sees("[") {
		r.enclosed("[", "]", func() { list = []api.Expr{r.expr()} })
	}
	return list
}

// complete counts an expression that has been read whole.
func (r *reader) complete(e api.Expr) api.Expr {
	count(&r.exprs, api.MaxExprs, e.At)
	return e
}
