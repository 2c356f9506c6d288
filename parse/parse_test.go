package parse

import (
	"math"
	"strings"
	"testing"

	"flyball/api"
	"flyball/tree"
)

func name(at int, s string, index ...api.Expr) api.Expr {
	return api.Expr{Op: api.OpName, At: at, Name: s, Args: index}
}

func integer(at int, n int32) api.Expr { return api.Expr{Op: api.OpInt, At: at, Int: n} }

func float(at int, x float64) api.Expr {
	return api.Expr{Op: api.OpFloat, At: at, Float: api.Float(math.Float64bits(x))}
}

func boolean(at int, b bool) api.Expr { return api.Expr{Op: api.OpBool, At: at, Bool: b} }

func op(o api.Op, at int, args ...api.Expr) api.Expr { return api.Expr{Op: o, At: at, Args: args} }

// read: the expression of a source.
func read(t *testing.T, source string, want api.Expr) {
	t.Helper()
	checkExpr(t, source, want, api.OK, 0)
}

// wrong: the source of an expression has this error.
func wrong(t *testing.T, source string, err api.Errno, at int) {
	t.Helper()
	checkExpr(t, source, api.Expr{}, err, at)
}

// step is a source with these statements, which begin at 24.
func step(stmts string) string { return "ticks 1; init {} step { " + stmts + " }" }

const stepAt = 24

// readStep: the statements of a source.
func readStep(t *testing.T, stmts string, want ...api.Stmt) {
	t.Helper()
	checkProgram(t, step(stmts), api.Program{Ticks: 1, Step: want}, api.OK, 0)
}

// wrongStep: the source of statements has this error; at is counted from the first one.
func wrongStep(t *testing.T, stmts string, err api.Errno, at int) {
	t.Helper()
	checkProgram(t, step(stmts), api.Program{}, err, stepAt+at)
}

// decl is a source with these declarations, which begin at 9.
func decl(decls string) string { return "ticks 1; " + decls + " init {} step {}" }

const declAt = 9

func readDecls(t *testing.T, decls string, want ...api.Decl) {
	t.Helper()
	checkProgram(t, decl(decls), api.Program{Ticks: 1, Decls: want}, api.OK, 0)
}

func wrongDecl(t *testing.T, decls string, err api.Errno, at int) {
	t.Helper()
	checkProgram(t, decl(decls), api.Program{}, err, declAt+at)
}

func TestExamples(t *testing.T) {
	read(t, "a - b - c < -d * 2", op(api.OpLess, 10,
		op(api.OpSub, 6, op(api.OpSub, 2, name(0, "a"), name(4, "b")), name(8, "c")),
		op(api.OpMul, 15, op(api.OpNeg, 12, name(13, "d")), integer(17, 2))))
	wrong(t, "a < b < c", api.ErrParseToken, 6)
	read(t, "!a && b", op(api.OpAnd, 3, op(api.OpNot, 0, name(1, "a")), name(6, "b")))
}

// TestProgram: a program with all that there is, and all places.
func TestProgram(t *testing.T) {
	source := "// a\nticks 9;input u:float in[-1,2.5];var v:int[4];var b:bool;init{b=true;}" +
		"step{v[u+1]=0;if b{}else if u<v[2]{b=false;}else{}for i=-2..5{for j=0..-0{}}}"
	checkProgram(t, source, api.Program{
		Ticks: 9,
		Decls: []api.Decl{
			{At: 13, Input: true, Name: "u", Type: api.TypeFloat, Range: true, Lo: integer(30, -1), Hi: float(33, 2.5)},
			{At: 38, Name: "v", Type: api.TypeInt, Len: 4},
			{At: 51, Name: "b", Type: api.TypeBool},
		},
		Init: []api.Stmt{{Kind: api.StmtAssign, At: 67, Name: "b", Expr: boolean(69, true)}},
		Step: []api.Stmt{
			{Kind: api.StmtAssign, At: 80, Name: "v", Index: []api.Expr{op(api.OpAdd, 83, name(82, "u"), integer(84, 1))}, Expr: integer(87, 0)},
			{Kind: api.StmtIf, At: 89, Expr: name(92, "b"), Else: []api.Stmt{{
				Kind: api.StmtIf,
				At:   100,
				Expr: op(api.OpLess, 104, name(103, "u"), name(105, "v", integer(107, 2))),
				Then: []api.Stmt{{Kind: api.StmtAssign, At: 110, Name: "b", Expr: boolean(112, false)}},
			}}},
			{Kind: api.StmtFor, At: 125, Name: "i", Lo: -2, Hi: 5, Then: []api.Stmt{{Kind: api.StmtFor, At: 137, Name: "j"}}},
		},
	}, api.OK, 0)
	checkProgram(t, "ticks 2147483647; init {} step {}", api.Program{Ticks: 2147483647}, api.OK, 0)
	checkProgram(t, "ticks 0; init {} step {} // end", api.Program{}, api.OK, 0)
}

func TestAtoms(t *testing.T) {
	read(t, "12", integer(0, 12))
	read(t, " 2147483647 ", integer(1, 2147483647))
	read(t, "1.50", float(0, 1.5))
	read(t, "1e3", float(0, 1000))
	read(t, "true", boolean(0, true))
	read(t, "\tfalse", boolean(1, false))
	read(t, "x_1", name(0, "x_1"))
	read(t, "v [ i ]", name(0, "v", name(4, "i")))
	read(t, "v[w[1]]", name(0, "v", name(2, "w", integer(4, 1))))
	read(t, "int(a)", op(api.OpToInt, 0, name(4, "a")))
	read(t, " float ( a )", op(api.OpToFloat, 1, name(9, "a")))
	read(t, "abs(a||b)", op(api.OpAbs, 0, op(api.OpOr, 5, name(4, "a"), name(7, "b"))))
	read(t, "-5", op(api.OpNeg, 0, integer(1, 5)))
	read(t, "- 0.5", op(api.OpNeg, 0, float(2, 0.5)))
	read(t, "- !-a", op(api.OpNeg, 0, op(api.OpNot, 2, op(api.OpNeg, 3, name(4, "a")))))
}

// TestBrackets: brackets leave no trace, and the place is that of what they hold.
func TestBrackets(t *testing.T) {
	read(t, "( ( a ) )", name(4, "a"))
	read(t, "(a+b)", op(api.OpAdd, 2, name(1, "a"), name(3, "b")))
	read(t, "((-a))", op(api.OpNeg, 2, name(3, "a")))
	read(t, "(v[(1)])", name(1, "v", integer(4, 1)))
	read(t, "a-(b-c)", op(api.OpSub, 1, name(0, "a"), op(api.OpSub, 4, name(3, "b"), name(5, "c"))))
	read(t, "(a<b)<c", op(api.OpLess, 5, op(api.OpLess, 2, name(1, "a"), name(3, "b")), name(6, "c")))
	read(t, "-(a)*b", op(api.OpMul, 4, op(api.OpNeg, 0, name(2, "a")), name(5, "b")))
	read(t, "(a)", name(1, "a"))
	wrong(t, "(a)[1]", api.ErrParseToken, 3)
	wrong(t, "(v)(1)", api.ErrParseToken, 3)
	wrong(t, "()", api.ErrParseToken, 1)
}

var theRows = [][]string{{"||"}, {"&&"}, {"<", "<=", "==", "!=", ">", ">="}, {"+", "-"}, {"*", "/"}}

// TestPairs: each two signs beside one another bind as their rules say.
func TestPairs(t *testing.T) {
	for i, row := range theRows {
		for _, s := range row {
			read(t, "a "+s+" b", op(theSigns[s], 2, name(0, "a"), name(2+len(s)+1, "b")))
			for j, other := range theRows {
				for _, z := range other {
					at := 5 + len(s)
					a, b, c := name(0, "a"), name(3+len(s), "b"), name(at+len(z)+1, "c")
					source := "a " + s + " b " + z + " c"
					switch {
					case i == 2 && j == 2:
						wrong(t, source, api.ErrParseToken, at)
					case i < j:
						read(t, source, op(theSigns[s], 2, a, op(theSigns[z], at, b, c)))
					default:
						read(t, source, op(theSigns[z], at, op(theSigns[s], 2, a, b), c))
					}
				}
			}
			for sign, o := range map[string]api.Op{"-": api.OpNeg, "!": api.OpNot} {
				read(t, sign+"a "+s+" b", op(theSigns[s], 3, op(o, 0, name(1, "a")), name(4+len(s), "b")))
				read(t, "a "+s+" "+sign+"b", op(theSigns[s], 2, name(0, "a"), op(o, 3+len(s), name(4+len(s), "b"))))
			}
		}
	}
	for _, x := range [][2]string{
		{"a || b && c == d + e * f", "a || (b && (c == (d + (e * f))))"},
		{"a * b + c == d && e || f", "((((a * b) + c) == d) && e) || f"},
		{"a / b * c / d", "((a / b) * c) / d"},
		{"a - b + c - d", "((a - b) + c) - d"},
		{"a < b && c < d || e < f && g < h", "((a < b) && (c < d)) || ((e < f) && (g < h))"},
		{"a == b || c != d", "(a == b) || (c != d)"},
		{"-a - -b", "-a - -b"},
	} {
		if e, err, _ := Expr(x[0]); err != api.OK || tree.Text(e) != x[1] {
			t.Error(x[0], tree.Text(e), err)
		}
	}
}

func TestRefusedExpressions(t *testing.T) {
	for source, at := range map[string]int{
		"": 0, "  ": 2, "// a": 4, "a b": 2, "a 1": 2, "1 2": 2, "1 a": 2, "a)": 1, "a]": 1, "a;": 1, "a,b": 1, "a =": 2, "a = b": 2,
		"a +": 3, "a + ": 4, "+a": 0, "a + + b": 4, "a * * b": 4, "a - / b": 4, "a !b": 2, "a ! = b": 2, "!": 1, "-": 1, "--": 2, "a ||": 4, "|| a": 0, "a && || b": 5,
		"(": 1, "(a": 2, "(a]": 2, "(a b)": 3, "((a)": 4, "v[": 2, "v[]": 2, "v[1": 3, "v[1)": 3, "v[1,2]": 3, "v[1][2]": 4, "[1]": 0, "1[2]": 1, "true[1]": 4,
		"int": 3, "int a": 4, "int[a]": 3, "int()": 4, "int(a": 5, "int(a,b)": 5, "abs -a": 4, "float()": 6, "float 1": 6, "bool(a)": 0, "int(bool)": 4, "f(a)": 1,
		"a < b > c": 6, "a == b == c": 7, "a == b != c + d": 7, "a < b < c < d": 6, "a <= (b < c) >= d": 13,
		"step": 0, "if": 0, "in": 0, "ticks": 0, "else": 0, "a..b": 1, "1..2": 1, "a : b": 2, "{a}": 0, "a init": 2,
	} {
		wrong(t, source, api.ErrParseToken, at)
	}
}

func TestDecls(t *testing.T) {
	readDecls(t, "var a: bool;", api.Decl{At: declAt, Name: "a", Type: api.TypeBool})
	readDecls(t, "var a: int; var a: float;", api.Decl{At: declAt, Name: "a", Type: api.TypeInt}, api.Decl{At: declAt + 12, Name: "a", Type: api.TypeFloat})
	readDecls(t, "var a: bool[0];", api.Decl{At: declAt, Name: "a", Type: api.TypeBool})
	readDecls(t, "var a: float[2147483647];", api.Decl{At: declAt, Name: "a", Type: api.TypeFloat, Len: 2147483647})
	readDecls(t, "input a: bool;input b: int;", api.Decl{At: declAt, Input: true, Name: "a", Type: api.TypeBool}, api.Decl{At: declAt + 14, Input: true, Name: "b", Type: api.TypeInt})
	inputs := func(ends string, lo, hi api.Expr) {
		t.Helper()
		lo.At += declAt + 17
		hi.At += declAt + 17
		readDecls(t, "input a: bool in["+ends+"];", api.Decl{At: declAt, Input: true, Name: "a", Type: api.TypeBool, Range: true, Lo: lo, Hi: hi})
	}
	inputs("0,1", integer(0, 0), integer(2, 1))
	inputs("-0,- 7", integer(0, 0), integer(3, -7))
	inputs("5,-2147483647", integer(0, 5), integer(2, -2147483647))
	inputs("0.0,-0.0", float(0, 0), float(4, math.Copysign(0, -1)))
	inputs(" - 1.5e3, 0", float(1, -1500), integer(10, 0))
	inputs("-1.7976931348623157e308,5e-324", float(0, -math.MaxFloat64), float(24, 5e-324))
}

func TestRefusedDecls(t *testing.T) {
	for source, at := range map[string]int{
		"var": 4, "var 1": 4, "var var": 4, "var int: int;": 4, "var a int;": 6, "var a = int;": 6, "var a: a;": 7, "var a: 1;": 7, "var a: abs;": 7, "var a: ;": 7,
		"var a: int": 11, "var a: int var b: int;": 11, "var a: int,": 10, "var a, b: int;": 5, "var a: int; ;": 12,
		"var a: int[]": 11, "var a: int[-1]": 11, "var a: int[1.0]": 11, "var a: int[n]": 11, "var a: int[1": 13, "var a: int[1,2]": 12, "var a: int[1][2]": 13, "var a: int(1)": 10, "var a: int[1] in [0, 1];": 14, "var a: int in [0, 1];": 11,
		"input a: int[1];": 12, "input a: int in": 16, "input a: int in 0": 16, "input a: int in (0, 1);": 16, "input a: int in []": 17, "input a: int in [0]": 18, "input a: int in [0 1]": 19, "input a: int in [0, ]": 20, "input a: int in [0, 1": 22, "input a: int in [0, 1, 2]": 21, "input a: int in [0, 1)": 21,
		"input a: int in [--1, 1];": 18, "input a: int in [-, 1];": 18, "input a: int in [+1, 1];": 17, "input a: int in [b, 1];": 17, "input a: int in [1 + 1, 2];": 19, "input a: int in [(1), 2];": 17, "input a: bool in [true, false];": 18, "input a: int in [0, 1] in [0, 1];": 23, "input a: int in [0, -];": 21,
		"a: int;": 0, "in a: int;": 0, "5;": 0, "step {}": 0, "init {} var a: int;": 8,
	} {
		wrongDecl(t, source, api.ErrParseToken, at)
	}
}

func TestStmts(t *testing.T) {
	a := func(at int) api.Stmt {
		return api.Stmt{Kind: api.StmtAssign, At: stepAt + at, Name: "a", Expr: integer(stepAt+at+2, 1)}
	}
	b := func(at int) api.Expr { return name(stepAt+at, "b") }
	readStep(t, "")
	readStep(t, "a=1;", a(0))
	readStep(t, "a=1;a=1;", a(0), a(4))
	readStep(t, "a[b]=1;", api.Stmt{Kind: api.StmtAssign, At: stepAt, Name: "a", Index: []api.Expr{b(2)}, Expr: integer(stepAt+5, 1)})
	readStep(t, "if b{}", api.Stmt{Kind: api.StmtIf, At: stepAt, Expr: b(3)})
	readStep(t, "if(b){a=1;}", api.Stmt{Kind: api.StmtIf, At: stepAt, Expr: b(3), Then: []api.Stmt{a(6)}})
	readStep(t, "if b{}else{}", api.Stmt{Kind: api.StmtIf, At: stepAt, Expr: b(3)})
	readStep(t, "if b{a=1;}else{a=1;}a=1;", api.Stmt{Kind: api.StmtIf, At: stepAt, Expr: b(3), Then: []api.Stmt{a(5)}, Else: []api.Stmt{a(15)}}, a(20))
	inner := api.Stmt{Kind: api.StmtIf, At: stepAt + 11, Expr: b(14), Else: []api.Stmt{a(22)}}
	readStep(t, "if b{}else if b{}else{a=1;}a=1;", api.Stmt{Kind: api.StmtIf, At: stepAt, Expr: b(3), Else: []api.Stmt{inner}}, a(27))
	readStep(t, "if b{}else{if b{}else{a=1;}}a=1;", api.Stmt{Kind: api.StmtIf, At: stepAt, Expr: b(3), Else: []api.Stmt{inner}}, a(28))
	readStep(t, "if b{if b{}}else{}", api.Stmt{Kind: api.StmtIf, At: stepAt, Expr: b(3), Then: []api.Stmt{{Kind: api.StmtIf, At: stepAt + 5, Expr: b(8)}}})
	for text, n := range map[string][2]int32{"0..0": {}, "1..3": {1, 3}, "-1..-3": {-1, -3}, "- 2147483647 .. 2147483647": {-2147483647, 2147483647}, "7..-0": {7, 0}} {
		readStep(t, "for b="+text+"{}", api.Stmt{Kind: api.StmtFor, At: stepAt, Name: "b", Lo: n[0], Hi: n[1]})
	}
	readStep(t, "for b=0..9{a=1;a=1;}", api.Stmt{Kind: api.StmtFor, At: stepAt, Name: "b", Hi: 9, Then: []api.Stmt{a(11), a(15)}})
	// Both blocks are read alike.
	checkProgram(t, "ticks 1; init { a=1;a=1;     } step {}", api.Program{Ticks: 1, Init: []api.Stmt{a(-8), a(-4)}}, api.OK, 0)
}

func TestRefusedStmts(t *testing.T) {
	for source, at := range map[string]int{
		"a": 2, "a;": 1, "a 1;": 2, "a == 1;": 2, "a = ;": 4, "a = 1": 6, "a = 1 b = 2;": 6, "a = 1;;": 6, "a = b = 1;": 6, "1 = a;": 0, "a[] = 1;": 2, "a[1 = 1;": 4, "a[1]; ": 4, "a[1][2] = 1;": 4, "a[1, 2] = 1;": 3, "a(1) = 1;": 1, "a + 1;": 2, "a = {1};": 4, "(a) = 1;": 0, "a..b = 1;": 1,
		"if": 3, "if {}": 3, "if b": 5, "if b a = 1;": 5, "if b {}; ": 7, "if b {} else": 13, "if b {} else a = 1;": 13, "if b {} else for i = 0 .. 1 {}": 13, "if b {} else {} else {}": 16, "else {}": 0, "if b {} else else {}": 13, "if b = 1 {}": 5, "if b < c < d {}": 9, "if b; {}": 4,
		"for": 4, "for 1": 4, "for i": 6, "for i {}": 6, "for i == 0": 6, "for i = {}": 8, "for i = 0 {}": 10, "for i = 0 .. {}": 13, "for i = 0 .. 1": 15, "for i = 0 .. 1;": 14, "for i = 0, 1 {}": 9, "for i = a .. 1 {}": 8, "for i = 0 .. a {}": 13, "for i = 0.5 .. 1 {}": 8, "for i = 0 .. 1.5 {}": 13, "for i = --1 .. 1 {}": 9, "for i = 0 .. - - 1 {}": 15, "for i = (0) .. 1 {}": 8, "for i = 0 + 1 .. 2 {}": 10, "for v[0] = 0 .. 1 {}": 5, "for i = 0 .. 1 {} else {}": 18, "for i = 0 .. 1 .. 2 {}": 15, "for in = 0 .. 1 {}": 4,
		"{}": 0, ";": 0, "var a: int;": 0, "step {}": 0, "true = 1;": 0, "int = 1;": 0, "} }": 2, "} a = 1;": 2,
	} {
		wrongStep(t, source, api.ErrParseToken, at)
	}
}

func TestRefusedPrograms(t *testing.T) {
	for source, at := range map[string]int{
		"": 0, " \n": 2, "a": 0, "ticks": 5, "ticks ": 6, "ticks a": 6, "ticks -1;": 6, "ticks 1.5;": 6, "ticks 1": 7, "ticks 1,": 7, "ticks 1;": 8, "ticks 1; ticks 1;": 9, "init {} step {}": 0, "step {}": 0,
		"ticks 1; init": 13, "ticks 1; init step": 14, "ticks 1; init {": 15, "ticks 1; init ( )": 14, "ticks 1; init {}": 16, "ticks 1; init {};": 16, "ticks 1; init {} init {}": 17, "ticks 1; step {} init {}": 9, "ticks 1; init {} step": 21, "ticks 1; init {} step {": 23, "ticks 1; init {} step ;": 22, "ticks 1; init {} step {} ;": 25, "ticks 1; init {} step {} step {}": 25, "ticks 1; init {} step {}}": 24, "ticks 1; init { a = 1; step {}": 23,
	} {
		checkProgram(t, source, api.Program{}, api.ErrParseToken, at)
	}
}

// TestLexFirst: an error of chapter 9 counts ahead of all others, wherever it is.
func TestLexFirst(t *testing.T) {
	wrong(t, "a & b", api.ErrLexByte, 2)
	wrong(t, ") a b &", api.ErrLexByte, 6)
	wrong(t, strings.Repeat("(", 30)+" 2147483648", api.ErrLexInt, 31)
	wrong(t, "+ "+strings.Repeat("x", 33), api.ErrLexLong, 2)
	wrong(t, ") 1e999", api.ErrLexFloat, 2)
	wrong(t, "1 2 .5", api.ErrLexByte, 4)
	wrong(t, strings.Repeat("a+", 2001)+" &", api.ErrLexByte, 4003)
	wrong(t, ")"+strings.Repeat(" ", 16384), api.ErrLexLong, 0)
	wrong(t, ")"+strings.Repeat(" ", 16383), api.ErrParseToken, 0)
	wrong(t, strings.Repeat(" ", 16384), api.ErrParseToken, 16384)
	checkProgram(t, "step { #", api.Program{}, api.ErrLexByte, 7)
	checkProgram(t, "ticks 2147483648;", api.Program{}, api.ErrLexInt, 6)
	checkProgram(t, decl("input a: float in [-1e309, 0];"), api.Program{}, api.ErrLexFloat, declAt+20)
	checkProgram(t, step("")+strings.Repeat(" ", 16384), api.Program{}, api.ErrLexLong, 0)
}

// nest writes an expression within n parts.
func nest(opening string, n int, closing string) string {
	return strings.Repeat(opening, n) + "a" + strings.Repeat(closing, n)
}

// TestDeepExpressions: each part that makes an expression deeper, 24 and 25 times.
func TestDeepExpressions(t *testing.T) {
	for _, x := range []struct {
		opening, closing string
		at               int // of what makes it deeper
	}{
		{"(", ")", 0}, {"-", "", 0}, {"!", "", 0}, {"v[", "]", 1}, {"int(", ")", 3}, {"float(", ")", 5}, {"abs(", ")", 3},
		{"1+(", ")", 2}, {"(1<", ")", 0}, {"v[1-", "]", 1}, {"abs (", ")", 4}, {"v [", "]", 2},
	} {
		if _, err, at := Expr(nest(x.opening, 24, x.closing)); err != api.OK || at != 0 {
			t.Error(x.opening, err, at)
		}
		at := 24*len(x.opening) + x.at
		wrong(t, nest(x.opening, 25, x.closing), api.ErrParseDeep, at)
		wrong(t, strings.Repeat(x.opening, 25), api.ErrParseDeep, at)
		wrong(t, strings.Repeat(x.opening, 25)+")", api.ErrParseDeep, at)
		// Behind a part the depth is what it was ahead of it.
		twice := nest(x.opening, 24, x.closing) + "+" + nest(x.opening, 24, x.closing)
		if _, err, at := Expr(twice); err != api.OK {
			t.Error(twice, err, at)
		}
		// In a block there is room for one less.
		if _, err, _ := Parse(step("x=" + nest(x.opening, 23, x.closing) + ";")); err != api.OK {
			t.Error(x.opening, err)
		}
		wrongStep(t, "x="+nest(x.opening, 24, x.closing)+";", api.ErrParseDeep, 2+23*len(x.opening)+x.at)
		wrongStep(t, "if "+nest(x.opening, 24, x.closing)+"{}", api.ErrParseDeep, 3+23*len(x.opening)+x.at)
		// In an index, and in the block behind an if, for two less.
		wrongStep(t, "x["+nest(x.opening, 23, x.closing)+"]=1;", api.ErrParseDeep, 2+22*len(x.opening)+x.at)
		wrongStep(t, "if b{x="+nest(x.opening, 23, x.closing)+";}", api.ErrParseDeep, 7+22*len(x.opening)+x.at)
	}
	chain := "-a" + strings.Repeat("*-a", 300)
	if e, err, _ := Expr(chain); err != api.OK || e.At != 899 {
		t.Error(err, e.At)
	}
	if _, err, _ := Expr(strings.Repeat("(", 23) + "-a-(b)-v[1]" + strings.Repeat(")", 23)); err != api.OK {
		t.Error(err)
	}
}

// TestDeepBlocks: blocks within one another, and what follows an else without a block.
func TestDeepBlocks(t *testing.T) {
	for _, x := range []struct {
		head, tail string
		at         int
	}{{"if b{", "}", 4}, {"for i=0..1{", "}", 10}, {"if b{}else{", "}", 4}, {"for i=-1..-1{", "}", 12}} {
		if _, err, _ := Parse(step(strings.Repeat(x.head, 23) + strings.Repeat(x.tail, 23))); err != api.OK {
			t.Error(x.head, err)
		}
		wrongStep(t, strings.Repeat(x.head, 24)+strings.Repeat(x.tail, 24), api.ErrParseDeep, 23*len(x.head)+x.at)
		wrongStep(t, strings.Repeat(x.head, 24), api.ErrParseDeep, 23*len(x.head)+x.at)
		// Signs of numbers don't count, and assignments without an index are no deeper.
		if _, err, _ := Parse(step(strings.Repeat(x.head, 23) + "a=b+1;" + strings.Repeat(x.tail, 23))); err != api.OK {
			t.Error(x.head, err)
		}
		for stmt, at := range map[string]int{"a[1]=1;": 1, "a=v[1];": 3, "a=-1;": 2, "a=(1);": 2, "if b{}": 4, "if!b{}": 2, "if b+1{}": 6, "for i=-1..1{}": 11} {
			wrongStep(t, strings.Repeat(x.head, 23)+stmt+strings.Repeat(x.tail, 23), api.ErrParseDeep, 23*len(x.head)+at)
		}
	}
	// Of a chain, each else but the first one is within the one ahead of it.
	again := "else if b{}"
	if _, err, _ := Parse(step("if b{}" + strings.Repeat(again, 22) + "else{}")); err != api.OK {
		t.Error(err)
	}
	wrongStep(t, "if b{}"+strings.Repeat(again, 23), api.ErrParseDeep, 6+22*11+9)
	wrongStep(t, "if b{}"+strings.Repeat(again, 24), api.ErrParseDeep, 6+22*11+9)
	wrongStep(t, "if b{}"+strings.Repeat(again, 22)+"else if-b{}", api.ErrParseDeep, 6+22*11+7)
	// What follows an else is as deep as the block ahead of it, with braces or without, so that an if there is never itself too deep, but its block may be.
	wrongStep(t, strings.Repeat("if b{", 22)+"if b{}else if b{}"+strings.Repeat("}", 22), api.ErrParseDeep, 22*5+15)
	wrongStep(t, strings.Repeat("if b{", 23)+"a=1;}else if b{}"+strings.Repeat("}", 22), api.ErrParseDeep, 23*5+14)
	if _, err, _ := Parse(step(strings.Repeat("if b{", 22) + "if b{}else{}" + strings.Repeat("}", 22))); err != api.OK {
		t.Error(err)
	}
	// Behind a block the depth is what it was ahead of it.
	blocks := strings.Repeat("if b{", 23) + strings.Repeat("}", 23)
	if _, err, _ := Parse("ticks 1; init {" + blocks + blocks + "} step {" + blocks + blocks + "}"); err != api.OK {
		t.Error(err)
	}
	chains := "if b{}" + strings.Repeat(again, 22)
	if _, err, _ := Parse(step(chains + chains + blocks)); err != api.OK {
		t.Error(err)
	}
}

// TestDeepOrRefused: a token that no rule accepts is refused, however deep; one that is accepted may be too deep.
func TestDeepOrRefused(t *testing.T) {
	deep := strings.Repeat("(", 24)
	for more, at := range map[string]int{"int a": 4, "abs": 3, "float[": 5, ")": 0, "*": 0, "a b": 2, "{": 0, "": 0, "1[": 1, "a{": 1} {
		wrong(t, deep+more, api.ErrParseToken, 24+at)
	}
	for more, at := range map[string]int{"int(": 3, "(": 0, "()": 0, "v[": 1, "v[]": 1, "-": 0, "!": 0, "-)": 0, "a+b*-": 4} {
		wrong(t, deep+more, api.ErrParseDeep, 24+at)
	}
	blocks := strings.Repeat("if b{", 23)
	for more, at := range map[string]int{"if b a": 5, "for i=0..1(": 10, "a=1;else": 4, "if b else": 5, "a(": 1, "{": 0, "(": 0, "-": 0} {
		wrongStep(t, blocks+more, api.ErrParseToken, 23*5+at)
	}
	for more, at := range map[string]int{"if b{ ]": 4, "for i=0..1{ 5": 10, "a[ ]": 1} {
		wrongStep(t, blocks+more, api.ErrParseDeep, 23*5+at)
	}
	// The block behind an else is an error at what stands there.
	wrongStep(t, "if b{}"+strings.Repeat("else if b{}", 22)+"else for", api.ErrParseToken, 6+22*11+5)
	wrong(t, ") "+strings.Repeat("(", 25), api.ErrParseToken, 0)
	wrong(t, strings.Repeat("(", 25)+") )", api.ErrParseDeep, 24)
}

func TestManyDecls(t *testing.T) {
	for _, d := range []string{"var x: int;", "input x: int in [-1, 2.5];", "var x: int[16];"} {
		p, err, _ := Parse(decl(strings.Repeat(d, 96)))
		if err != api.OK || len(p.Decls) != 96 || p.Decls[95].At != declAt+95*len(d) {
			t.Error(d, err, len(p.Decls))
		}
		for _, more := range []string{d, "var", "input", "var )", "input a: int[1];"} {
			wrongDecl(t, strings.Repeat(d, 96)+more, api.ErrParseMany, 96*len(d))
		}
		wrongDecl(t, strings.Repeat(d, 96)+"bool", api.ErrParseToken, 96*len(d))
		wrongDecl(t, strings.Repeat(d, 95)+"var )"+strings.Repeat(d, 96), api.ErrParseToken, 95*len(d)+4)
		// The numbers of ranges are not counted among the expressions.
		p, err, _ = Parse("ticks 1; " + strings.Repeat(d, 96) + "init {} step {x=" + strings.Repeat("a+", 999) + "a;x=a;}")
		if _, n := tree.Count(p); err != api.OK || n != 2000 {
			t.Error(d, err, n)
		}
	}
}

func TestManyStmts(t *testing.T) {
	for _, s := range []string{"x=1;", "v[0]=1;", "if b{}", "for i=0..1{}"} {
		p, err, _ := Parse(step(strings.Repeat(s, 200)))
		if err != api.OK || len(p.Step) != 200 {
			t.Error(s, err, len(p.Step))
		}
		for _, more := range []string{s, "x", "if", "for", "x )", "if )", "x=1;)"} {
			wrongStep(t, strings.Repeat(s, 200)+more, api.ErrParseMany, 200*len(s))
		}
		for _, more := range []string{";", "5", "var"} {
			wrongStep(t, strings.Repeat(s, 200)+more, api.ErrParseToken, 200*len(s))
		}
	}
	// Those of both blocks count, and those within others, which are reached behind them.
	hundred := strings.Repeat("x=1;", 100)
	if _, err, _ := Parse("ticks 1;init{" + hundred + "}step{" + hundred + "}"); err != api.OK {
		t.Error(err)
	}
	checkProgram(t, "ticks 1;init{"+hundred+"}step{"+hundred+"y=1;}", api.Program{}, api.ErrParseMany, 13+400+6+400)
	checkProgram(t, "ticks 1;init{"+hundred+hundred+"}step{y=1;}", api.Program{}, api.ErrParseMany, 13+800+6)
	for block, within := range map[string]int{"if b{if b{}else{x=1;}}": 3, "if b{}else if b{}else if b{}": 3, "for i=0..1{if b{x=1;x=1;}}": 4, "if b{x=1;}else{x=1;}": 3} {
		rest := strings.Repeat("x=1;", 200-within)
		for _, stmts := range []string{block + rest, rest + block} {
			if _, err, _ := Parse(step(stmts)); err != api.OK {
				t.Error(block, err)
			}
		}
		wrongStep(t, block+rest+"y=1;", api.ErrParseMany, len(block+rest))
	}
	rest := strings.Repeat("x=1;", 199)
	wrongStep(t, rest+"if b{}else if c{}", api.ErrParseMany, len(rest)+11)
	wrongStep(t, rest+"if b{y=1;}", api.ErrParseMany, len(rest)+5)
	wrongStep(t, rest+"if b{)y=1;}", api.ErrParseToken, len(rest)+5)
	// Declarations and statements are counted apart.
	many := strings.Repeat("var x: int;", 96)
	if _, err, _ := Parse("ticks 1;" + many + "init{" + hundred + "}step{" + hundred + "}"); err != api.OK {
		t.Error(err)
	}
}

func TestManyExprs(t *testing.T) {
	// 999 signs with 1000 operands, and one expression more.
	most := strings.Repeat("a+", 999) + "a"
	for _, x := range []struct {
		source string
		at     int
	}{{"-(" + most + ")", -1}, {"int(" + most + ")", -1}, {"v[" + most + "]", -1}, {"!-(" + most + ")", 0}, {"abs(v[" + most + "])", 0}, {most + "+a", 1999}, {"a+(" + most + ")", 1}, {"(a)+(" + most + ")", 3}, {most + "<a", 1999}, {most + "+-a", 2000}, {"-(" + most + ")*b", 2003}, {most + "+a*b", 2002}, {most + "+(a*b)", 2003}} {
		if x.at < 0 {
			if _, err, _ := Expr(x.source); err != api.OK {
				t.Error(x.source, err)
			}
		} else {
			wrong(t, x.source, api.ErrParseMany, x.at)
		}
	}
	wrong(t, most+"+b)", api.ErrParseMany, 1999)
	wrong(t, most+"+b b", api.ErrParseMany, 1999)
	wrong(t, most+"+", api.ErrParseToken, 2000)
	wrong(t, most+"+)", api.ErrParseToken, 2000)
	wrong(t, most+"+b", api.ErrParseMany, 1999)
	// An expression is complete behind its last token.
	even := most + "+" // and one expression more makes 2000
	wrong(t, even+"v[", api.ErrParseToken, 2002)
	wrong(t, even+"v[b", api.ErrParseToken, 2003)
	wrong(t, even+"v[b)", api.ErrParseToken, 2003)
	wrong(t, even+"v[b]", api.ErrParseMany, 2000)
	wrong(t, even+"v[b]]", api.ErrParseMany, 2000)
	wrong(t, even+"int(b", api.ErrParseToken, 2005)
	wrong(t, even+"int(b)", api.ErrParseMany, 2000)
	wrong(t, even+"(b", api.ErrParseToken, 2002)
	wrong(t, even+"(b)", api.ErrParseMany, 1999)
	wrong(t, even+"-", api.ErrParseToken, 2001)
	wrong(t, even+"-b)", api.ErrParseMany, 2000)
	wrong(t, even+"(-b", api.ErrParseMany, 2001)
	wrong(t, even+"b*", api.ErrParseToken, 2002)
	wrong(t, even+"b*c", api.ErrParseMany, 2002)
}

// TestManyExprsOfStmts: the expressions of all statements count, and of each one the index ahead of the other.
func TestManyExprsOfStmts(t *testing.T) {
	rest := "x=" + strings.Repeat("a+", 998) + "a;" // 1997
	if p, err, _ := Parse(step(rest + "v[b]=c;if d{}")); err != api.OK {
		t.Error(err)
	} else if _, n := tree.Count(p); n != 2000 {
		t.Error(n)
	}
	at := len(rest)
	wrongStep(t, rest+"v[b]=c;if d{y=1;}", api.ErrParseMany, at+14)
	wrongStep(t, rest+"v[b]=c;if d{}x=e;", api.ErrParseMany, at+15)
	wrongStep(t, rest+"v[b]=c;if d+1{}", api.ErrParseMany, at+12)
	wrongStep(t, rest+"if b{v[c]=-d;}", api.ErrParseMany, at+10)
	wrongStep(t, rest+"v[b+c]=d;", api.ErrParseMany, at+7)
	wrongStep(t, rest+"x=v[w[b]];x=c;", api.ErrParseMany, at+12)
	wrongStep(t, rest+"x=b;x=c;x=d;v[e]=f;", api.ErrParseMany, at+14)
	// The numbers of a loop are no expressions.
	if _, err, _ := Parse(step(rest + "x=b;x=c;x=d;for i=-1..2{}for i=0..-2{}")); err != api.OK {
		t.Error(err)
	}
	init := "ticks 1;init{" + rest + "x=b;x=c;x=d;}"
	if _, err, _ := Parse(init + "step{}"); err != api.OK {
		t.Error(err)
	}
	checkProgram(t, init+"step{x=e;}", api.Program{}, api.ErrParseMany, len(init)+7)
}
