package tree

import (
	"math"
	"strings"
	"testing"

	"flyball/api"
	"flyball/deci"
)

func op(o api.Op, args ...api.Expr) api.Expr { return api.Expr{Op: o, Args: args} }

func name(text string, index ...api.Expr) api.Expr {
	return api.Expr{Op: api.OpName, Name: text, Args: index}
}

func integer(n int32) api.Expr { return api.Expr{Op: api.OpInt, Int: n} }

func boolean(b bool) api.Expr { return api.Expr{Op: api.OpBool, Bool: b} }

func float(x float64) api.Expr {
	return api.Expr{Op: api.OpFloat, Float: api.Float(math.Float64bits(x))}
}

func assign(text string, e api.Expr) api.Stmt {
	return api.Stmt{Kind: api.StmtAssign, Name: text, Expr: e}
}

func choice(e api.Expr, then, other []api.Stmt) api.Stmt {
	return api.Stmt{Kind: api.StmtIf, Expr: e, Then: then, Else: other}
}

func loop(text string, lo, hi int32, body ...api.Stmt) api.Stmt {
	return api.Stmt{Kind: api.StmtFor, Name: text, Lo: lo, Hi: hi, Then: body}
}

func checkText(t *testing.T, e api.Expr, want string) {
	t.Helper()
	if s := Text(e); s != want {
		t.Errorf("%q, not %q", s, want)
	}
}

// checkStep: the statements are these lines of the block step.
func checkStep(t *testing.T, lines string, list ...api.Stmt) {
	t.Helper()
	want := "ticks 0;\ninit {\n}\nstep {\n" + lines + "}\n"
	if s := Print(api.Program{Step: list}); s != want {
		t.Errorf("%q, not %q", s, want)
	}
}

// checkDecl: the declaration is this line.
func checkDecl(t *testing.T, d api.Decl, line string) {
	t.Helper()
	want := "ticks 0;\n" + line + "\ninit {\n}\nstep {\n}\n"
	if s := Print(api.Program{Decls: []api.Decl{d}}); s != want {
		t.Errorf("%q, not %q", s, want)
	}
}

func checkCount(t *testing.T, p api.Program, stmts, exprs int) {
	t.Helper()
	if n, m := Count(p); n != stmts || m != exprs {
		t.Errorf("%d and %d, not %d and %d", n, m, stmts, exprs)
	}
}

func TestExample(t *testing.T) {
	sum := op(api.OpAdd, name("a"), integer(1))
	checkText(t, op(api.OpMul, op(api.OpNeg, sum), name("b", name("i"))), "-(a + 1) * b[i]")
}

func TestLiterals(t *testing.T) {
	checkText(t, boolean(true), "true")
	checkText(t, boolean(false), "false")
	for n, want := range map[int32]string{0: "0", 7: "7", -1: "-1", 10: "10", math.MaxInt32: "2147483647", math.MinInt32: "-2147483648"} {
		checkText(t, integer(n), want)
	}
	for x, want := range map[float64]string{0: "0.0", math.Copysign(0, -1): "-0.0", 0.1: "0.1", -2: "-2.0", 1e21: "1e21", 1e20: "100000000000000000000.0", 1.5e-7: "1.5e-7", 5e-324: "5e-324", math.MaxFloat64: "1.7976931348623157e308", math.Inf(1): "inf", math.Inf(-1): "-inf"} {
		checkText(t, float(x), want)
	}
	checkText(t, api.Expr{Op: api.OpFloat, Float: 0x7ff8000000000000}, "nan")
	checkText(t, api.Expr{Op: api.OpFloat, Float: 0xffffffffffffffff}, "nan")
	for bits := api.Float(0x9e3779b97f4a7c15); bits>>60 != 0; bits >>= 1 {
		checkText(t, api.Expr{Op: api.OpFloat, Float: bits}, deci.Print(bits))
	}
}

// TestOwnFields: a literal or a name says nothing of the fields of others.
func TestOwnFields(t *testing.T) {
	all := api.Expr{At: 9, Bool: true, Int: 5, Float: 0x3ff0000000000000, Name: "n", Args: []api.Expr{name("i"), name("j"), name("k")}}
	for o, want := range map[api.Op]string{api.OpNone: "", api.OpBool: "true", api.OpInt: "5", api.OpFloat: "1.0", api.OpName: "n[i]", api.OpSub: "i - j", api.OpOr: "i || j", api.OpNeg: "-i", api.OpNot: "!i", api.OpToInt: "int(i)", api.OpToFloat: "float(i)", api.OpAbs: "abs(i)", api.OpAbs + 1: "", 99: "", 255: ""} {
		e := all
		e.Op = o
		checkText(t, e, want)
	}
}

func TestNames(t *testing.T) {
	for _, s := range []string{"", "a", "x_1", "if", "a b", "é\xff\x00\n", strings.Repeat("n", 1000)} {
		checkText(t, name(s), s)
		checkText(t, name(s, integer(3)), s+"[3]")
	}
	checkText(t, name("v", name("i")), "v[i]")
	checkText(t, name("v", name("i"), name("j")), "v[i]")
	checkText(t, name("v", op(api.OpAdd, name("i"), integer(1))), "v[i + 1]")
	checkText(t, name("v", name("w", name("u", integer(-2)))), "v[w[u[-2]]]")
	checkText(t, name("v", op(api.OpNeg, name("i"))), "v[-i]")
	checkText(t, name("v", op(api.OpNone)), "v[]")
	checkText(t, api.Expr{Op: api.OpName, Name: "v", Args: []api.Expr{}}, "v")
}

func TestConversions(t *testing.T) {
	for o, head := range map[api.Op]string{api.OpToInt: "int(", api.OpToFloat: "float(", api.OpAbs: "abs("} {
		checkText(t, op(o), head+")")
		checkText(t, op(o, name("x")), head+"x)")
		checkText(t, op(o, name("x"), name("y")), head+"x)")
		checkText(t, op(o, op(api.OpAdd, name("x"), name("y"))), head+"x + y)")
		checkText(t, op(o, op(o, op(api.OpNeg, name("x")))), head+head+"-x))")
		checkText(t, op(api.OpNeg, op(o, name("x"))), "-"+head+"x)")
		checkText(t, op(api.OpMul, op(o, name("x")), op(o, name("y"))), head+"x) * "+head+"y)")
	}
}

func TestSigns(t *testing.T) {
	for o, sign := range map[api.Op]string{api.OpAdd: "+", api.OpSub: "-", api.OpMul: "*", api.OpDiv: "/", api.OpLess: "<", api.OpLessEq: "<=", api.OpEq: "==", api.OpNotEq: "!=", api.OpMore: ">", api.OpMoreEq: ">=", api.OpAnd: "&&", api.OpOr: "||"} {
		a, b, c := name("a"), integer(-3), float(0.5)
		checkText(t, op(o, a, b), "a "+sign+" -3")
		checkText(t, op(o, a, b, c), "a "+sign+" -3")
		checkText(t, op(o, a), "a "+sign+" ")
		checkText(t, op(o), " "+sign+" ")
		checkText(t, op(o, op(api.OpNone), b), " "+sign+" -3")
		checkText(t, op(o, op(o, a, b), c), "(a "+sign+" -3) "+sign+" 0.5")
		checkText(t, op(o, a, op(o, b, c)), "a "+sign+" (-3 "+sign+" 0.5)")
		checkText(t, op(o, op(o), op(o)), "( "+sign+" ) "+sign+" ( "+sign+" )")
		checkText(t, op(o, op(api.OpNeg, a), op(api.OpNot, b)), "-a "+sign+" !-3")
		checkText(t, op(api.OpNeg, op(o, a, c)), "-(a "+sign+" 0.5)")
		checkText(t, op(api.OpNot, op(o, a, c)), "!(a "+sign+" 0.5)")
		checkText(t, name("v", op(o, a, c)), "v[a "+sign+" 0.5]")
	}
}

func TestUnary(t *testing.T) {
	a := name("a")
	checkText(t, op(api.OpNeg, a), "-a")
	checkText(t, op(api.OpNot, a), "!a")
	checkText(t, op(api.OpNeg), "-")
	checkText(t, op(api.OpNot), "!")
	checkText(t, op(api.OpNeg, a, name("b")), "-a")
	checkText(t, op(api.OpNeg, op(api.OpNeg, a)), "--a")
	checkText(t, op(api.OpNeg, integer(-3)), "--3")
	checkText(t, op(api.OpNeg, float(-0.5)), "--0.5")
	checkText(t, op(api.OpNot, op(api.OpNeg, op(api.OpNot, a))), "!-!a")
	checkText(t, op(api.OpSub, a, op(api.OpNeg, a)), "a - -a")
}

// TestBrackets: an operand of each operation, of each other one.
func TestBrackets(t *testing.T) {
	for inner := range 256 {
		e := op(api.Op(inner), name("a"), name("b"))
		text := Text(e)
		operand := text
		if api.Op(inner) >= api.OpAdd && api.Op(inner) <= api.OpOr {
			operand = "(" + text + ")"
		}
		checkText(t, op(api.OpNeg, e), "-"+operand)
		checkText(t, op(api.OpNot, e), "!"+operand)
		checkText(t, op(api.OpDiv, e, e), operand+" / "+operand)
		checkText(t, op(api.OpOr, e, e), operand+" || "+operand)
		checkText(t, op(api.OpAbs, e), "abs("+text+")")
		checkText(t, op(api.OpToFloat, e), "float("+text+")")
		checkText(t, name("v", e), "v["+text+"]")
		checkText(t, op(99, e), "")
	}
}

func TestPrint(t *testing.T) {
	p := api.Program{
		Ticks: 100,
		Decls: []api.Decl{
			{Input: true, Name: "u", Type: api.TypeFloat, Range: true, Lo: float(-1), Hi: float(1)},
			{Name: "x", Type: api.TypeFloat},
			{Name: "v", Type: api.TypeInt, Len: 4},
		},
		Init: []api.Stmt{assign("x", float(0))},
		Step: []api.Stmt{
			loop("i", 0, 3, choice(op(api.OpLess, name("x"), name("u")), []api.Stmt{
				{Kind: api.StmtAssign, Name: "v", Index: []api.Expr{name("i")}, Expr: op(api.OpAdd, name("v", name("i")), integer(1))},
			}, []api.Stmt{
				choice(boolean(true), nil, nil),
			})),
			assign("x", name("u")),
		},
	}
	want := strings.Join([]string{
		"ticks 100;",
		"input u: float in [-1.0, 1.0];",
		"var x: float;",
		"var v: int[4];",
		"init {",
		"\tx = 0.0;",
		"}",
		"step {",
		"\tfor i = 0 .. 3 {",
		"\t\tif x < u {",
		"\t\t\tv[i] = v[i] + 1;",
		"\t\t} else {",
		"\t\t\tif true {",
		"\t\t\t}",
		"\t\t}",
		"\t}",
		"\tx = u;",
		"}",
		"",
	}, "\n")
	if s := Print(p); s != want {
		t.Error(s)
	}
	checkCount(t, p, 6, 11)
}

func TestEmpty(t *testing.T) {
	if s := Print(api.Program{}); s != "ticks 0;\ninit {\n}\nstep {\n}\n" {
		t.Errorf("%q", s)
	}
	checkText(t, api.Expr{}, "")
	checkCount(t, api.Program{}, 0, 0)
	if !Same(api.Program{}, api.Program{}) || !SameExpr(api.Expr{}, api.Expr{}) {
		t.Error("not the same")
	}
}

func TestTicks(t *testing.T) {
	for n, want := range map[int]string{1: "1", -5: "-5", 1234567890: "1234567890", math.MaxInt64: "9223372036854775807", math.MinInt64: "-9223372036854775808"} {
		if s := Print(api.Program{Ticks: n}); s != "ticks "+want+";\ninit {\n}\nstep {\n}\n" {
			t.Errorf("%q", s)
		}
	}
}

func TestDecls(t *testing.T) {
	checkDecl(t, api.Decl{Name: "b", Type: api.TypeBool}, "var b: bool;")
	checkDecl(t, api.Decl{Input: true, Name: "b", Type: api.TypeBool}, "input b: bool;")
	checkDecl(t, api.Decl{Name: "n", Type: api.TypeInt, Len: 16}, "var n: int[16];")
	checkDecl(t, api.Decl{Name: "n", Type: api.TypeInt, Len: 1}, "var n: int[1];")
	checkDecl(t, api.Decl{Name: "n", Type: api.TypeInt, Len: 0}, "var n: int;")
	checkDecl(t, api.Decl{Name: "n", Type: api.TypeInt, Len: -1}, "var n: int;")
	checkDecl(t, api.Decl{Name: "n", Type: api.TypeFloat, Len: math.MaxInt64}, "var n: float[9223372036854775807];")
	checkDecl(t, api.Decl{Input: true, Name: "n", Type: api.TypeInt, Range: true, Lo: integer(-5), Hi: integer(7)}, "input n: int in [-5, 7];")
	checkDecl(t, api.Decl{Input: true, Name: "n", Type: api.TypeInt, Lo: integer(-5), Hi: integer(7)}, "input n: int;")
	// What no source says has a text all the same.
	checkDecl(t, api.Decl{Input: true, Name: "n", Type: api.TypeFloat, Len: 3, Range: true, Lo: op(api.OpAdd, name("a"), name("b")), Hi: op(99)}, "input n: float[3] in [a + b, ];")
	checkDecl(t, api.Decl{Name: "n", Type: api.TypeFloat, Range: true}, "var n: float in [, ];")
	checkDecl(t, api.Decl{}, "var : ;")
	for _, other := range []api.Type{api.TypeNone, api.TypeFloat + 1, 255} {
		checkDecl(t, api.Decl{Name: "n", Type: other, Len: 2}, "var n: [2];")
	}
	both := api.Program{Decls: []api.Decl{{Name: "b", Type: api.TypeBool}, {Name: "a", Type: api.TypeInt}, {Name: "b", Type: api.TypeFloat}}}
	if s := Print(both); s != "ticks 0;\nvar b: bool;\nvar a: int;\nvar b: float;\ninit {\n}\nstep {\n}\n" {
		t.Errorf("%q", s)
	}
}

func TestStmts(t *testing.T) {
	one := []api.Stmt{assign("x", integer(1))}
	checkStep(t, "\tx = 1;\n", one...)
	checkStep(t, "\tx = (a + b) + c;\n", assign("x", op(api.OpAdd, op(api.OpAdd, name("a"), name("b")), name("c"))))
	checkStep(t, "\tx = 1;\n\ty = 2;\n", assign("x", integer(1)), assign("y", integer(2)))
	checkStep(t, "\t = ;\n", api.Stmt{Kind: api.StmtAssign})
	checkStep(t, "\tv[i + 1] = 2;\n", api.Stmt{Kind: api.StmtAssign, Name: "v", Index: []api.Expr{op(api.OpAdd, name("i"), integer(1)), name("j")}, Expr: integer(2)})
	checkStep(t, "\tv[] = 2;\n", api.Stmt{Kind: api.StmtAssign, Name: "v", Index: []api.Expr{{}}, Expr: integer(2)})
	checkStep(t, "\tv = 2;\n", api.Stmt{Kind: api.StmtAssign, Name: "v", Index: []api.Expr{}, Expr: integer(2), Lo: 1, Hi: 2, Then: one, Else: one})

	checkStep(t, "\tif b {\n\t}\n", choice(name("b"), nil, nil))
	checkStep(t, "\tif b {\n\t}\n", choice(name("b"), []api.Stmt{}, []api.Stmt{}))
	checkStep(t, "\tif a < b {\n\t\tx = 1;\n\t}\n", choice(op(api.OpLess, name("a"), name("b")), one, nil))
	checkStep(t, "\tif b {\n\t} else {\n\t\tx = 1;\n\t}\n", choice(name("b"), nil, one))
	checkStep(t, "\tif b {\n\t\tx = 1;\n\t} else {\n\t\tx = 1;\n\t}\n\tx = 1;\n", choice(name("b"), one, one), one[0])
	checkStep(t, "\tif  {\n\t\tif c {\n\t\t} else {\n\t\t\tx = 1;\n\t\t}\n\t}\n", choice(op(99), []api.Stmt{choice(name("c"), nil, one)}, nil))
	checkStep(t, "\tif b {\n\t}\n", api.Stmt{Kind: api.StmtIf, Name: "n", Index: []api.Expr{name("i")}, Expr: name("b"), Lo: 1, Hi: 2})

	checkStep(t, "\tfor i = 0 .. 3 {\n\t\tx = 1;\n\t}\n", loop("i", 0, 3, one...))
	checkStep(t, "\tfor i = -2147483648 .. 2147483647 {\n\t}\n", loop("i", math.MinInt32, math.MaxInt32))
	checkStep(t, "\tfor i = 5 .. -5 {\n\t\tfor j = 0 .. 0 {\n\t\t\tx = 1;\n\t\t}\n\t\tx = 1;\n\t}\n", loop("i", 5, -5, loop("j", 0, 0, one...), one[0]))
	checkStep(t, "\tfor i = 1 .. 2 {\n\t}\n", api.Stmt{Kind: api.StmtFor, Name: "i", Index: []api.Expr{name("i")}, Expr: name("b"), Lo: 1, Hi: 2, Else: one})
}

// TestOtherKinds: statements of other kinds are left out, with all that is within them; an else that has only those is not empty.
func TestOtherKinds(t *testing.T) {
	for _, kind := range []api.StmtKind{api.StmtNone, api.StmtFor + 1, 77, 255} {
		other := api.Stmt{Kind: kind, Name: "x", Expr: name("b"), Then: []api.Stmt{assign("x", integer(1))}, Else: []api.Stmt{assign("x", integer(1))}}
		checkStep(t, "", other)
		checkStep(t, "\ty = 2;\n\tz = 3;\n", other, assign("y", integer(2)), other, assign("z", integer(3)), other)
		checkStep(t, "\tif b {\n\t} else {\n\t}\n", choice(name("b"), []api.Stmt{other}, []api.Stmt{other}))
		checkStep(t, "\tfor i = 1 .. 2 {\n\t}\n", loop("i", 1, 2, other))
		checkCount(t, api.Program{Step: []api.Stmt{other}}, 3, 2)
	}
}

// TestInit: both blocks are written alike.
func TestInit(t *testing.T) {
	p := api.Program{Init: []api.Stmt{choice(name("b"), []api.Stmt{assign("x", integer(1))}, nil), assign("y", integer(2))}, Step: []api.Stmt{assign("z", integer(3))}}
	if s := Print(p); s != "ticks 0;\ninit {\n\tif b {\n\t\tx = 1;\n\t}\n\ty = 2;\n}\nstep {\n\tz = 3;\n}\n" {
		t.Errorf("%q", s)
	}
	checkCount(t, p, 4, 4)
}

func TestCount(t *testing.T) {
	a := name("a")
	step := func(list ...api.Stmt) api.Program { return api.Program{Step: list} }
	checkCount(t, step(assign("x", a)), 1, 1)
	checkCount(t, step(assign("x", op(api.OpAdd, a, op(api.OpNeg, a)))), 1, 4)
	checkCount(t, step(assign("x", name("v", op(api.OpAdd, a, a)))), 1, 4)
	checkCount(t, step(assign("x", api.Expr{})), 1, 1)
	checkCount(t, step(assign("x", op(99, a, a, a))), 1, 4)
	checkCount(t, step(choice(a, nil, nil)), 1, 1)
	checkCount(t, step(choice(a, []api.Stmt{assign("x", a)}, []api.Stmt{assign("x", a), assign("x", a)})), 4, 4)
	checkCount(t, step(loop("i", 0, 3, assign("x", a))), 2, 1)
	// The Expr of other kinds is not counted; the Index of each statement is.
	for kind, exprs := range map[api.StmtKind]int{api.StmtNone: 2, api.StmtAssign: 5, api.StmtIf: 5, api.StmtFor: 2, 99: 2} {
		checkCount(t, step(api.Stmt{Kind: kind, Index: []api.Expr{op(api.OpNeg, a)}, Expr: op(api.OpAdd, a, a)}), 1, exprs)
	}
	checkCount(t, step(api.Stmt{Kind: api.StmtAssign, Index: []api.Expr{a, a, a}, Expr: a}), 1, 4)
	// Declarations are not counted; both blocks are.
	decls := []api.Decl{{Name: "x", Range: true, Lo: integer(1), Hi: op(api.OpNeg, integer(2))}}
	checkCount(t, api.Program{Ticks: 5, Decls: decls}, 0, 0)
	checkCount(t, api.Program{Decls: decls, Init: []api.Stmt{assign("x", a), {}}, Step: []api.Stmt{choice(a, nil, []api.Stmt{{}})}}, 4, 2)
}

func TestSame(t *testing.T) {
	p := api.Program{Step: []api.Stmt{assign("x", name("a"))}}
	moved := api.Program{Decls: []api.Decl{}, Init: []api.Stmt{}, Step: []api.Stmt{{Kind: api.StmtAssign, At: 7, Name: "x", Index: []api.Expr{}, Expr: api.Expr{Op: api.OpName, At: 9, Name: "a", Args: []api.Expr{}}, Then: []api.Stmt{}}}}
	if !Same(p, moved) || !Same(moved, p) || !SameExpr(p.Step[0].Expr, moved.Step[0].Expr) {
		t.Error("not the same")
	}
	if Same(p, api.Program{Init: p.Step}) || Same(p, api.Program{Step: append(moved.Step, moved.Step...)}) {
		t.Error("the same")
	}
	for _, other := range []api.Expr{name("b"), name("a", name("a")), op(api.OpNone), {Op: api.OpName, Name: "a", Int: 1}, {Op: api.OpName, Name: "a", Bool: true}, {Op: api.OpName, Name: "a", Float: 1}} {
		if SameExpr(name("a"), other) || SameExpr(other, name("a")) {
			t.Error(other)
		}
	}
	// Floats go by their bits, so that both zeros differ, and a NaN is the same as itself.
	nan := api.Expr{Op: api.OpFloat, Float: 0x7ff8000000000000}
	if SameExpr(float(0), float(math.Copysign(0, -1))) || !SameExpr(nan, nan) {
		t.Error("floats")
	}
	// Trees may differ that have the same text.
	if SameExpr(integer(-1), op(api.OpNeg, integer(1))) || SameExpr(op(api.OpAdd, name("a"), name("b")), op(api.OpAdd, name("a"), name("b"), name("c"))) {
		t.Error("texts")
	}
}
