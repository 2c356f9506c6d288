package parse

import "flyball/api"

func (r *reader) block() []api.Stmt {
	var list []api.Stmt
	r.enclosed("{", "}", func() {
		for !r.sees("}") {
			list = append(list, r.stmt())
		}
	})
	return list
}

func (r *reader) stmt() api.Stmt {
	head := r.next()
	if head.Kind != api.KindName && head.Text != "if" && head.Text != "for" {
		r.refuse()
	}
	count(&r.stmts, api.MaxStmts, head.At)
	r.take()
	switch head.Text {
	case "if":
		return r.choice(head.At)
	case "for":
		return r.loop(head.At)
	}
	return r.assign(head)
}

// choice reads what follows an if.
func (r *reader) choice(at int) api.Stmt {
	s := api.Stmt{Kind: api.StmtIf, At: at}
	s.Expr = r.expr()
	s.Then = r.block()
	if r.accept("else") {
		s.Else = r.otherwise()
	}
	return s
}

// otherwise reads what follows an else.
func (r *reader) otherwise() []api.Stmt {
	if !r.sees("if") {
		return r.block()
	}
	var list []api.Stmt
	r.deeper(func() { list = []api.Stmt{r.stmt()} })
	return list
}

// loop reads what follows a for.
func (r *reader) loop(at int) api.Stmt {
	s := api.Stmt{Kind: api.StmtFor, At: at}
	s.Name = r.takeKind(api.KindName).Text
	r.expect("=")
	s.Lo = r.whole()
	r.expect("..")
	s.Hi = r.whole()
	s.Then = r.block()
	return s
}

// assign reads what follows a name.
func (r *reader) assign(name api.Token) api.Stmt {
	s := api.Stmt{Kind: api.StmtAssign, At: name.At, Name: name.Text}
	s.Index = r.index()
	r.expect("=")
	s.Expr = r.expr()
	r.expect(";")
	return s
}
