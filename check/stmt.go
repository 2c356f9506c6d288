package check

import (
	"flyball/api"
	"flyball/lex"
)

func (c *checker) block(list []api.Stmt) {
	for _, s := range list {
		c.stmt(s)
	}
}

func (c *checker) stmt(s api.Stmt) {
	switch s.Kind {
	case api.StmtAssign:
		c.assign(s)
	case api.StmtIf:
		c.expect(s.Expr, api.TypeBool)
		c.block(s.Then)
		c.block(s.Else)
	case api.StmtFor:
		c.loop(s)
	default:
		fail(api.ErrCheckType, s.At)
	}
}

func (c *checker) assign(s api.Stmt) {
	m := c.find(s.Name, s.At)
	must(m.use == variable, api.ErrCheckWrite, s.At)
	must(len(s.Index) == m.indexes(), api.ErrCheckIndex, s.At)
	for _, e := range s.Index {
		c.expect(e, api.TypeInt)
	}
	c.expect(s.Expr, m.kind)
}

func (c *checker) loop(s api.Stmt) {
	must(lex.IsName(s.Name), api.ErrCheckName, s.At)
	must(!c.knows(s.Name), api.ErrCheckTwice, s.At)
	// The difference of two integers of 32 bits may need 33.
	must(int64(s.Hi)-int64(s.Lo) < api.MaxLoop, api.ErrCheckRange, s.At)
	must(c.loops < api.MaxLoops, api.ErrCheckRange, s.At)
	c.names[s.Name] = meaning{use: counter, kind: api.TypeInt}
	c.loops++
	c.block(s.Then)
	c.loops--
	delete(c.names, s.Name)
}
