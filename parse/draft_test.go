package parse

import (
	"math"
	"strings"

	"flyball/api"
)

// This file writes sources together with the trees that the chapter says they have, or the errors.

// stream makes words from a fixed start, so that a failure can be had again.
type stream uint64

func (s *stream) next() uint64 {
	x := uint64(*s)
	x ^= x << 13
	x ^= x >> 7
	x ^= x << 17
	*s = stream(x)
	return x * 0x2545f4914f6cdd1d
}

func (s *stream) below(n int) int { return int(s.next() >> 32 % uint64(n)) }

func pick[T any](s *stream, l ...T) T { return l[s.below(len(l))] }

var theSigns = map[string]api.Op{
	"+": api.OpAdd, "-": api.OpSub, "*": api.OpMul, "/": api.OpDiv,
	"<": api.OpLess, "<=": api.OpLessEq, "==": api.OpEq, "!=": api.OpNotEq, ">": api.OpMore, ">=": api.OpMoreEq,
	"&&": api.OpAnd, "||": api.OpOr,
}

// style is how a draft is: chances are in percent.
type style struct {
	tokens int // about how many there are at most
	decls  int // chance of one more
	stmts  int // chance of one more in a block
	inner  int // chance that a statement has blocks
	again  int // chance of one more operand
	nested int // chance that an operand has an inner expression
	dense  bool
}

var (
	ordinary = style{tokens: 300, decls: 60, stmts: 60, inner: 50, again: 15, nested: 40}
	deepText = style{tokens: 400, decls: 5, stmts: 40, inner: 15, again: 2, nested: 93}
	deepCode = style{tokens: 400, decls: 5, stmts: 90, inner: 95, again: 2, nested: 5}
	longText = style{tokens: 7000, decls: 50, stmts: 80, inner: 2, again: 97, nested: 25, dense: true}
	longCode = style{tokens: 3000, decls: 70, stmts: 98, inner: 4, again: 5, nested: 10, dense: true}
	longHead = style{tokens: 3000, decls: 99, stmts: 20, inner: 10, again: 5, nested: 10, dense: true}
)

// draft is a source that is being written, and the first error that there is in it.
type draft struct {
	*stream
	style
	text  strings.Builder
	ats   []int // of each token
	depth int
	stmt  int // how many statements there are
	expr  int // how many expressions are complete
	err   api.Errno
	at    int
	when  int // the token behind which the error shows
}

func newDraft(s *stream, st style) *draft { return &draft{stream: s, style: st} }

func (d *draft) chance(percent int) bool {
	return len(d.ats) < d.tokens && d.below(100) < percent
}

// token writes one, and a gap ahead of it if they may not touch.
func (d *draft) token(text string) int {
	const loose = "()[]{},;"
	before := d.text.String()
	touches := before == "" || strings.ContainsAny(text, loose) || strings.ContainsAny(before[len(before)-1:], loose)
	switch {
	case !touches:
		d.gap()
	case !d.dense && d.below(2) == 0:
		d.gap()
	}
	at := d.text.Len()
	d.ats = append(d.ats, at)
	d.text.WriteString(text)
	return at
}

func (d *draft) gap() {
	if d.dense {
		d.text.WriteString(" ")
	} else {
		d.text.WriteString(pick(d.stream, " ", " ", "\n", "\t", "\r\n", " // } ) ] é\n", "\t//\n"))
	}
}

func (d *draft) error(err api.Errno, at int) {
	if d.err == api.OK {
		d.err, d.at, d.when = err, at, len(d.ats)-1
	}
}

func (d *draft) enter(at int) {
	d.depth++
	if d.depth > 24 {
		d.error(api.ErrParseDeep, at)
	}
}

func (d *draft) leave() { d.depth-- }

func (d *draft) open(text string) {
	d.enter(d.token(text))
}

func (d *draft) close(text string) {
	d.token(text)
	d.leave()
}

func (d *draft) program() api.Program {
	var p api.Program
	d.token("ticks")
	p.Ticks = int(d.integer())
	d.token(";")
	for d.chance(d.decls) {
		p.Decls = append(p.Decls, d.decl(len(p.Decls)))
	}
	d.token("init")
	p.Init = d.block()
	d.token("step")
	p.Step = d.block()
	return p
}

func (d *draft) decl(before int) api.Decl {
	word := pick(d.stream, "input", "var")
	x := api.Decl{At: d.token(word), Input: word == "input"}
	if before >= 96 {
		d.error(api.ErrParseMany, x.At)
	}
	x.Name = d.name()
	d.token(":")
	x.Type = api.Type(1 + d.below(3))
	d.token([]string{"bool", "int", "float"}[x.Type-1])
	switch more := d.below(2) == 0; {
	case more && x.Input:
		x.Range = true
		d.token("in")
		d.open("[")
		x.Lo = d.number()
		d.token(",")
		x.Hi = d.number()
		d.close("]")
	case more:
		d.open("[")
		x.Len = int(d.integer())
		d.close("]")
	}
	d.token(";")
	return x
}

func (d *draft) name() string {
	name := pick(d.stream, "a", "b", "v", "x1", "_", "IF", "inn", "e5")
	d.token(name)
	return name
}

func (d *draft) integer() int32 {
	n := d.below(4)
	d.token([]string{"0", "7", "0012", "2147483647"}[n])
	return []int32{0, 7, 12, 2147483647}[n]
}

func (d *draft) float() float64 {
	n := d.below(5)
	d.token([]string{"0.0", "1.50", "1e3", "25E-1", "1.7976931348623157e+308"}[n])
	return []float64{0, 1.5, 1000, 2.5, math.MaxFloat64}[n]
}

func (d *draft) whole() int32 {
	if d.below(2) == 0 {
		d.token("-")
		return -d.integer()
	}
	return d.integer()
}

func (d *draft) number() api.Expr {
	minus := d.below(2) == 0
	first := len(d.ats)
	if minus {
		d.token("-")
	}
	e := api.Expr{}
	switch isFloat := d.below(2) == 0; {
	case isFloat && minus:
		e.Op, e.Float = api.OpFloat, api.Float(math.Float64bits(math.Copysign(d.float(), -1)))
	case isFloat:
		e.Op, e.Float = api.OpFloat, api.Float(math.Float64bits(d.float()))
	case minus:
		e.Op, e.Int = api.OpInt, -d.integer()
	default:
		e.Op, e.Int = api.OpInt, d.integer()
	}
	e.At = d.ats[first]
	return e
}

func (d *draft) block() []api.Stmt {
	var l []api.Stmt
	d.open("{")
	for d.chance(d.stmts) {
		l = append(l, d.statement())
	}
	d.close("}")
	return l
}

func (d *draft) statement() api.Stmt {
	if !d.chance(d.inner) {
		return d.assign()
	}
	if d.below(3) == 0 {
		return d.loop()
	}
	return d.choice(false)
}

func (d *draft) reach(at int) {
	d.stmt++
	if d.stmt > 200 {
		d.error(api.ErrParseMany, at)
	}
}

func (d *draft) assign() api.Stmt {
	s := api.Stmt{Kind: api.StmtAssign, Name: d.name()}
	s.At = d.ats[len(d.ats)-1]
	d.reach(s.At)
	s.Index = d.index()
	d.token("=")
	s.Expr = d.or()
	d.token(";")
	return s
}

func (d *draft) loop() api.Stmt {
	s := api.Stmt{Kind: api.StmtFor, At: d.token("for")}
	d.reach(s.At)
	s.Name = d.name()
	d.token("=")
	s.Lo = d.whole()
	d.token("..")
	s.Hi = d.whole()
	s.Then = d.block()
	return s
}

func (d *draft) choice(behindElse bool) api.Stmt {
	s := api.Stmt{Kind: api.StmtIf, At: d.token("if")}
	if behindElse {
		d.enter(s.At)
	}
	d.reach(s.At)
	s.Expr = d.or()
	s.Then = d.block()
	switch d.below(3) {
	case 0:
		d.token("else")
		s.Else = d.block()
	case 1:
		d.token("else")
		s.Else = []api.Stmt{d.choice(true)}
	}
	if behindElse {
		d.leave()
	}
	return s
}

// complete counts an expression behind its last token.
func (d *draft) complete(e api.Expr) api.Expr {
	d.expr++
	if d.expr > 2000 {
		d.error(api.ErrParseMany, e.At)
	}
	return e
}

func (d *draft) or() api.Expr { return d.chain(d.and, "||") }

func (d *draft) and() api.Expr { return d.chain(d.cmp, "&&") }

func (d *draft) cmp() api.Expr {
	e := d.sum()
	if d.below(10) == 0 {
		e = d.binary(e, pick(d.stream, "<", "<=", "==", "!=", ">", ">="), d.sum)
	}
	return e
}

func (d *draft) sum() api.Expr { return d.chain(d.prod, "+", "-") }

func (d *draft) prod() api.Expr { return d.chain(d.unary, "*", "/") }

func (d *draft) chain(operand func() api.Expr, signs ...string) api.Expr {
	e := operand()
	for d.chance(d.again) {
		e = d.binary(e, pick(d.stream, signs...), operand)
	}
	return e
}

func (d *draft) binary(first api.Expr, sign string, operand func() api.Expr) api.Expr {
	at := d.token(sign)
	return d.complete(api.Expr{Op: theSigns[sign], At: at, Args: []api.Expr{first, operand()}})
}

func (d *draft) unary() api.Expr {
	if !d.chance(d.nested) || d.below(3) > 0 {
		return d.atom()
	}
	e := api.Expr{Op: api.OpNeg}
	sign := "-"
	if d.below(2) == 0 {
		e.Op, sign = api.OpNot, "!"
	}
	e.At = d.token(sign)
	d.enter(e.At)
	e.Args = []api.Expr{d.unary()}
	d.leave()
	return d.complete(e)
}

func (d *draft) atom() api.Expr {
	if !d.chance(d.nested) {
		return d.complete(d.leaf())
	}
	e := api.Expr{Op: api.OpName}
	switch way := d.below(5); way {
	case 0:
		return d.bracketed()
	case 1:
		first := len(d.ats)
		e.Name = d.name()
		e.At = d.ats[first]
		d.open("[")
		e.Args = []api.Expr{d.or()}
		d.close("]")
	default:
		e.Op = api.OpToInt + api.Op(way-2)
		e.At = d.token([]string{"int", "float", "abs"}[way-2])
		e.Args = []api.Expr{d.bracketed()}
	}
	return d.complete(e)
}

func (d *draft) bracketed() api.Expr {
	d.open("(")
	e := d.or()
	d.close(")")
	return e
}

func (d *draft) leaf() api.Expr {
	first := len(d.ats)
	e := api.Expr{}
	switch d.below(4) {
	case 0:
		e.Op, e.Bool = api.OpBool, d.below(2) == 0
		d.token(map[bool]string{true: "true", false: "false"}[e.Bool])
	case 1:
		e.Op, e.Int = api.OpInt, d.integer()
	case 2:
		e.Op, e.Float = api.OpFloat, api.Float(math.Float64bits(d.float()))
	default:
		e.Op, e.Name = api.OpName, d.name()
	}
	e.At = d.ats[first]
	return e
}

func (d *draft) index() []api.Expr {
	if !d.chance(d.nested) {
		return nil
	}
	d.open("[")
	e := d.or()
	d.close("]")
	return []api.Expr{e}
}
