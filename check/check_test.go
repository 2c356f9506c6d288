package check

import (
	"strconv"
	"strings"
	"testing"

	"flyball/api"
	"flyball/parse"
)

// In the sources of this file, an @ marks the place of the error that is expected.

// parsed returns the tree of a source without its mark, and where the mark was.
func parsed(t *testing.T, source string) (api.Program, int) {
	t.Helper()
	before, behind, _ := strings.Cut(source, "@")
	p, err, at := parse.Parse(before + behind)
	if err != api.OK {
		t.Fatalf("%q: %v at %d", source, err, at)
	}
	return p, len(before)
}

func valid(t *testing.T, source string) {
	t.Helper()
	p, _ := parsed(t, source)
	if err, at := Check(p); err != api.OK || at != 0 {
		t.Errorf("%q: %v at %d", source, err, at)
	}
}

func invalid(t *testing.T, source string, want api.Errno) {
	t.Helper()
	p, wantAt := parsed(t, source)
	if !strings.Contains(source, "@") {
		t.Fatalf("%q has no mark", source)
	}
	if err, at := Check(p); err != want || at != wantAt {
		t.Errorf("%q: %v at %d, not %v at %d", source, err, at, want, wantAt)
	}
}

const theDecls = "ticks 5; input u: float in [-1, 1]; input k: int in [0, 9]; input b: bool; var x: float; var n: int; var c: bool; var v: float[4]; var w: int[16]; var z: bool[1];"

func inInit(stmts string) string { return theDecls + " init { " + stmts + " } step { }" }

func inStep(stmts string) string { return theDecls + " init { } step { " + stmts + " }" }

// validBoth: statements that do no harm in Init and in Step.
func validBoth(t *testing.T, stmts string) {
	t.Helper()
	valid(t, inInit(stmts))
	valid(t, inStep(stmts))
}

func invalidBoth(t *testing.T, stmts string, want api.Errno) {
	t.Helper()
	invalid(t, inInit(stmts), want)
	invalid(t, inStep(stmts), want)
}

func withDecls(decls string) string { return "ticks 1; " + decls + " init { } step { }" }

// program has these declarations and these statements in Step.
func program(decls []api.Decl, stmts ...api.Stmt) api.Program {
	return api.Program{Ticks: 1, Decls: decls, Step: stmts}
}

// checked: Check returns this for a program that no source has.
func checked(t *testing.T, p api.Program, want api.Errno, wantAt int) {
	t.Helper()
	if err, at := Check(p); err != want || at != wantAt {
		t.Errorf("%+v: %v at %d, not %v at %d", p, err, at, want, wantAt)
	}
}

// typed: TypeOf returns this.
func typed(t *testing.T, p api.Program, e api.Expr, want api.Type, wantErr api.Errno, wantAt int) {
	t.Helper()
	if kind, err, at := TypeOf(p, e); kind != want || err != wantErr || at != wantAt {
		t.Errorf("%+v: %v, %v at %d, not %v, %v at %d", e, kind, err, at, want, wantErr, wantAt)
	}
}

func name(at int, s string, index ...api.Expr) api.Expr {
	return api.Expr{Op: api.OpName, At: at, Name: s, Args: index}
}

func integer(at int, n int32) api.Expr { return api.Expr{Op: api.OpInt, At: at, Int: n} }

func float(at int, f api.Float) api.Expr { return api.Expr{Op: api.OpFloat, At: at, Float: f} }

func boolean(at int) api.Expr { return api.Expr{Op: api.OpBool, At: at} }

func op(o api.Op, at int, args ...api.Expr) api.Expr { return api.Expr{Op: o, At: at, Args: args} }

func TestExamples(t *testing.T) {
	invalid(t, "ticks 1; var x: float; var y: float; init { } step { x = y @+ 1; }", api.ErrCheckType)
	invalid(t, "ticks 1; input u: float in [0, 1]; init { } step { @u = 1.0; }", api.ErrCheckWrite)
	invalid(t, "ticks 1; init { } step { @for i = 0 .. 16 { } }", api.ErrCheckRange)
}

func TestTicks(t *testing.T) {
	for _, ticks := range []int{1, 2, 2147483646, 2147483647} {
		checked(t, api.Program{Ticks: ticks}, api.OK, 0)
	}
	for _, ticks := range []int{0, -1, 2147483648, 1 << 32, 1<<32 + 1, -1 << 63, 1<<63 - 1} {
		checked(t, api.Program{Ticks: ticks}, api.ErrCheckRange, 0)
		checked(t, api.Program{Ticks: ticks, Decls: []api.Decl{{At: 3}}, Init: []api.Stmt{{At: 4}}}, api.ErrCheckRange, 0)
	}
}

func TestDeclNames(t *testing.T) {
	for _, s := range []string{"a", "_", "Z", "x1", "tick", "Step", "abs_", strings.Repeat("n", 32)} {
		checked(t, program([]api.Decl{{At: 7, Name: s, Type: api.TypeInt}}), api.OK, 0)
	}
	for _, s := range []string{"", "1", "1a", "a-b", " a", "a ", "a\n", "é", "\xff", "step", "abs", "in", "true", "ticks", strings.Repeat("n", 33)} {
		checked(t, program([]api.Decl{{At: 7, Name: s, Type: api.TypeInt}}), api.ErrCheckName, 7)
		// The name counts ahead of all else.
		checked(t, program([]api.Decl{{At: 7, Name: s, Type: 9, Len: -1, Range: true}}, api.Stmt{At: 2}), api.ErrCheckName, 7)
	}
	invalid(t, withDecls("var x: int; var y: int; @var x: float;"), api.ErrCheckTwice)
	invalid(t, withDecls("input x: bool; @var x: bool;"), api.ErrCheckTwice)
	invalid(t, withDecls("var x: int[3]; @input x: bool;"), api.ErrCheckTwice)
	invalid(t, withDecls("input x: bool; @input x: bool;"), api.ErrCheckTwice)
	valid(t, withDecls("var x: int; var X: int; var x_: int; var xx: int;"))
	// A name that is twice there counts ahead of the type and of the range, and an error ahead of it counts first.
	x := api.Decl{At: 1, Name: "x", Type: api.TypeInt}
	checked(t, program([]api.Decl{x, {At: 5, Name: "x", Len: 17}}), api.ErrCheckTwice, 5)
	checked(t, program([]api.Decl{x, {At: 5, Name: "y", Type: 4, Len: 17}, {At: 6, Name: "x"}}), api.ErrCheckType, 5)
	checked(t, program([]api.Decl{x, {At: 5, Name: "y", Type: api.TypeInt, Len: 17}, {At: 6, Name: "x"}}), api.ErrCheckRange, 5)
}

func TestDeclTypes(t *testing.T) {
	for _, kind := range []api.Type{0, 4, 5, 128, 255} {
		for _, input := range []bool{true, false} {
			checked(t, program([]api.Decl{{At: 7, Name: "x", Type: kind, Input: input}}), api.ErrCheckType, 7)
			checked(t, program([]api.Decl{{At: 7, Name: "x", Type: kind, Input: input, Len: -1, Range: true}}), api.ErrCheckType, 7)
		}
	}
	valid(t, withDecls("var a: bool; var b: int; var c: float; input d: bool; input e: int in [0, 0]; input f: float in [0, 0];"))
}

func TestInputs(t *testing.T) {
	for _, s := range []string{
		"int in [0, 9]", "int in [-2147483647, 2147483647]", "int in [3, 3]", "int in [-3, -3]", "int in [-2, -1]",
		"float in [0, 9]", "float in [3, 3.0]", "float in [3.0, 3]", "float in [-1.5, 2]", "float in [-0.0, 0]", "float in [0.0, -0.0]", "float in [0, -0.0]", "float in [0, 5e-324]", "float in [-1.7976931348623157e308, 1.7976931348623157e308]", "float in [2147483646.5, 2147483647]", "bool",
	} {
		valid(t, withDecls("input a: "+s+";"))
	}
	for _, s := range []string{
		"int", "int in [1, 0]", "int in [0, -1]", "int in [0, 1.0]", "int in [0.0, 1]", "int in [0.0, 1.0]", "int in [2147483647, -2147483647]",
		"float", "float in [1, 0]", "float in [5e-324, 0]", "float in [0, -5e-324]", "float in [1.5, 1]", "float in [2, 1.9999999999999998]", "float in [2147483647, 2147483646.9]",
		"bool in [0, 1]", "bool in [1, 0]", "bool in [0.0, 1.0]",
	} {
		invalid(t, withDecls("var n: int; @input a: "+s+"; var n: int;"), api.ErrCheckRange)
	}
}

// TestInputTrees: inputs that no source has.
func TestInputTrees(t *testing.T) {
	input := func(d api.Decl, want api.Errno) {
		t.Helper()
		d.Name, d.Input, d.At = "u", true, 7
		at := 0
		if want != api.OK {
			at = 7
		}
		checked(t, program([]api.Decl{d}), want, at)
	}
	zero := integer(50, 0)
	for _, f := range []api.Float{plusInf, minusInf, quietNaN, otherNaN} {
		input(api.Decl{Type: api.TypeFloat, Range: true, Lo: zero, Hi: float(9, f)}, api.ErrCheckRange)
		input(api.Decl{Type: api.TypeFloat, Range: true, Lo: float(9, f), Hi: zero}, api.ErrCheckRange)
		input(api.Decl{Type: api.TypeFloat, Range: true, Lo: float(9, f), Hi: float(9, f)}, api.ErrCheckRange)
		// What does not belong to the operation does not count.
		input(api.Decl{Type: api.TypeFloat, Range: true, Lo: api.Expr{Op: api.OpInt, Float: f}, Hi: zero}, api.OK)
	}
	for _, e := range []api.Expr{{}, boolean(3), name(3, "u"), op(api.OpNeg, 3, zero), op(api.OpToFloat, 3, zero), {Op: 255}} {
		for _, kind := range []api.Type{api.TypeInt, api.TypeFloat} {
			input(api.Decl{Type: kind, Range: true, Lo: e, Hi: zero}, api.ErrCheckRange)
			input(api.Decl{Type: kind, Range: true, Lo: zero, Hi: e}, api.ErrCheckRange)
		}
	}
	input(api.Decl{Type: api.TypeInt, Range: true, Lo: integer(0, -1<<31), Hi: integer(0, -1<<31)}, api.OK)
	input(api.Decl{Type: api.TypeInt, Range: true, Lo: integer(0, 1<<31-1), Hi: integer(0, -1<<31)}, api.ErrCheckRange)
	input(api.Decl{Type: api.TypeFloat, Range: true, Lo: integer(0, -1<<31), Hi: float(0, 0xc1e0000000000000)}, api.OK)
	input(api.Decl{Type: api.TypeFloat, Range: true, Lo: integer(0, -1<<31), Hi: float(0, 0xc1e0000000000001)}, api.ErrCheckRange)
	for _, size := range []int{1, -1, 16, 17, -1 << 63} {
		input(api.Decl{Type: api.TypeInt, Range: true, Lo: zero, Hi: zero, Len: size}, api.ErrCheckRange)
		input(api.Decl{Type: api.TypeFloat, Range: true, Lo: zero, Hi: zero, Len: size}, api.ErrCheckRange)
		input(api.Decl{Type: api.TypeBool, Len: size}, api.ErrCheckRange)
	}
	// Without a range nothing is asked of its ends, which are no expressions of the program.
	input(api.Decl{Type: api.TypeBool, Lo: integer(0, 5), Hi: integer(0, 3)}, api.OK)
	input(api.Decl{Type: api.TypeInt, Lo: zero, Hi: zero}, api.ErrCheckRange)
	input(api.Decl{Type: api.TypeInt, Range: true, Lo: op(api.OpInt, 4, name(5, "y")), Hi: zero}, api.OK)
}

func TestVariables(t *testing.T) {
	for _, kind := range []string{"bool", "int", "float"} {
		for size, want := range map[string]api.Errno{"0": api.OK, "1": api.OK, "15": api.OK, "16": api.OK, "17": api.ErrCheckRange, "96": api.ErrCheckRange, "2147483647": api.ErrCheckRange} {
			if want == api.OK {
				valid(t, withDecls("var v: "+kind+"["+size+"];"))
			} else {
				invalid(t, withDecls("@var v: "+kind+"["+size+"]; var v: int;"), want)
			}
		}
	}
	for _, size := range []int{-1, -16, -1 << 63, 17, 1<<63 - 1, 1 << 32} {
		checked(t, program([]api.Decl{{At: 7, Name: "v", Type: api.TypeInt, Len: size}}), api.ErrCheckRange, 7)
	}
	for _, kind := range []api.Type{api.TypeBool, api.TypeInt, api.TypeFloat} {
		checked(t, program([]api.Decl{{At: 7, Name: "v", Type: kind, Range: true, Lo: integer(0, 0), Hi: integer(0, 0)}}), api.ErrCheckRange, 7)
		checked(t, program([]api.Decl{{At: 7, Name: "v", Type: kind, Lo: integer(0, 5), Hi: name(0, "y")}}), api.OK, 0)
	}
}

// TestCells: how many cells there may be, of single ones, arrays and inputs.
func TestCells(t *testing.T) {
	many := func(n int, decl string) string {
		text := ""
		for i := range n {
			text += strings.ReplaceAll(decl, "#", strconv.Itoa(i))
		}
		return text
	}
	valid(t, withDecls(many(96, "var a#: int;")))
	valid(t, withDecls(many(96, "var a#: int[1];")))
	valid(t, withDecls(many(48, "var a#: int[1]; input u#: bool;")))
	valid(t, withDecls(many(96, "input u#: float in [0, 1];")))
	valid(t, withDecls(many(6, "var a#: float[16];")))
	invalid(t, withDecls(many(6, "var a#: float[16];")+"@var b: int; var b: int;"), api.ErrCheckRange)
	invalid(t, withDecls(many(6, "var a#: float[16];")+"@input b: bool;"), api.ErrCheckRange)
	invalid(t, withDecls(many(5, "var a#: float[16];")+"var b: bool; @var c: int[16]; var d: int;"), api.ErrCheckRange)
	valid(t, withDecls(many(5, "var a#: float[16];")+"var b: bool; var c: int[15];"))
	invalid(t, withDecls(many(95, "input u#: bool;")+"@var v: int[2];"), api.ErrCheckRange)
	var decls []api.Decl
	for i := range 97 {
		decls = append(decls, api.Decl{At: 100 + i, Name: "a" + strconv.Itoa(i), Type: api.TypeInt})
	}
	checked(t, program(decls[:96]), api.OK, 0)
	checked(t, program(decls), api.ErrCheckRange, 196)
	// An error of the same declaration that is named ahead of it counts first.
	decls[96].Name = "a3"
	checked(t, program(decls), api.ErrCheckTwice, 196)
	decls[96].Name, decls[96].Type = "b", 0
	checked(t, program(decls), api.ErrCheckType, 196)
}

func TestAssign(t *testing.T) {
	validBoth(t, "x = 1.0; n = 1; c = true; v[0] = 1.0; w[n] = 1; z[0 - 1] = c; w[w[w[99]]] = n;")
	invalidBoth(t, "@y = 1;", api.ErrCheckName)
	invalidBoth(t, "n = 1; @y[q] = q;", api.ErrCheckName)
	invalidBoth(t, "@X = 1.0;", api.ErrCheckName)
	for _, s := range []string{"@u = 1.0;", "@k = 1;", "@b = true;", "@u[0] = 1.0;", "@u[q] = q;", "@k = q;", "for i = 0 .. 1 { @i = 1; }", "for i = 0 .. 1 { @i[q] = q; }", "for i = 0 .. 1 { for j = 0 .. 1 { @i = 1; } }"} {
		invalidBoth(t, s, api.ErrCheckWrite)
	}
	for _, s := range []string{"@v = 1.0;", "@v = v;", "@w = q;", "@z = false;", "@x[0] = 1.0;", "@n[q] = 1;", "@c[0] = q;"} {
		invalidBoth(t, s, api.ErrCheckIndex)
	}
	for _, s := range []string{
		"v[@x] = 1.0;", "v[@c] = 1.0;", "w[@1.0] = 1;", "z[@true] = q;", "v[n @< n] = 1.0;", "v[@v[0]] = 1.0;",
		"x = @1;", "x = @true;", "x = @n;", "x = @c;", "x = w[0] @* n;", "n = @1.0;", "n = @x;", "n = n @== n;", "c = @0;", "c = @x;", "v[n] = @n;", "w[n] = @v[n];", "z[0] = @-n;",
	} {
		invalidBoth(t, s, api.ErrCheckType)
	}
	// The name, the index, and then the expression.
	invalidBoth(t, "v[@q] = r;", api.ErrCheckName)
	invalidBoth(t, "v[@c] = q;", api.ErrCheckType)
	invalidBoth(t, "v[n] = @q;", api.ErrCheckName)
	invalidBoth(t, "v[@w[c]] = q;", api.ErrCheckType)
	// Only trees have more than one index.
	v := []api.Decl{{Name: "v", Type: api.TypeInt, Len: 2}}
	two := []api.Expr{name(5, "q"), integer(6, 0)}
	checked(t, program(v, api.Stmt{Kind: api.StmtAssign, At: 4, Name: "v", Index: two, Expr: integer(8, 0)}), api.ErrCheckIndex, 4)
	// What an assignment has no use for does not count.
	rest := []api.Stmt{{At: 9}}
	checked(t, program(v, api.Stmt{Kind: api.StmtAssign, At: 4, Name: "v", Index: two[1:], Expr: integer(8, 0), Lo: -1 << 31, Hi: 99, Then: rest, Else: rest}), api.OK, 0)
}

func TestIf(t *testing.T) {
	validBoth(t, "if c { } if true { x = 1.0; } else { n = 1; } if z[0] { } else if n < 1 { } else { c = !c; }")
	for _, s := range []string{"if @n { }", "if @x { y = 1; }", "if @1 { }", "if @v[0] { }", "if n @+ n { } else { y = 1; }", "if c { } else if @n { }", "if c { if @0.5 { } }"} {
		invalidBoth(t, s, api.ErrCheckType)
	}
	invalidBoth(t, "if @q { r = 1; }", api.ErrCheckName)
	invalidBoth(t, "if c { @q = 1; } else { r = 1; }", api.ErrCheckName)
	invalidBoth(t, "if c { } else { @r = 1; } s = 1;", api.ErrCheckName)
	invalidBoth(t, "if c { if c { n = 1; @q = 1; } r = 1; }", api.ErrCheckName)
	checked(t, program(nil, api.Stmt{Kind: api.StmtIf, At: 4, Name: "?", Index: []api.Expr{{}}, Expr: boolean(5), Hi: 99}), api.OK, 0)
	checked(t, program(nil, api.Stmt{Kind: api.StmtIf, At: 4}), api.ErrCheckType, 0)
}

func TestFor(t *testing.T) {
	validBoth(t, "for i = 0 .. 15 { n = i; v[i] = 1.0; w[w[i]] = -i; c = i < n; }")
	validBoth(t, "for i = -8 .. 7 { } for i = 3 .. 3 { } for i = 3 .. 2 { n = i; } for i = 2147483647 .. -2147483647 { } for i = -2147483647 .. -2147483632 { } for i = 2147483632 .. 2147483647 { }")
	validBoth(t, "for i = 0 .. 1 { for j = 0 .. 1 { n = i * j; } for j = 0 .. 1 { n = i - j; } } for j = 0 .. 1 { for i = 0 .. 1 { n = i + j; } }")
	validBoth(t, "for i = 0 .. 1 { if c { for j = 0 .. 1 { if c { } else { n = i; } } } else { for j = 0 .. 1 { } } }")
	for _, s := range []string{"@for n = 0 .. 16 { }", "@for u = 0 .. 1 { y = 1; }", "@for v = 0 .. 1 { }", "for i = 0 .. 1 { @for i = 0 .. 16 { } }", "for i = 0 .. 1 { @for n = 0 .. 16 { } }", "for i = 0 .. 1 { for j = 0 .. 1 { @for i = 0 .. 1 { } } }", "for i = 0 .. 1 { for j = 0 .. 1 { @for j = 0 .. 1 { } } }"} {
		invalidBoth(t, s, api.ErrCheckTwice)
	}
	for _, s := range []string{
		"@for i = 0 .. 16 { y = 1; }", "@for i = -8 .. 8 { }", "@for i = 0 .. 2147483647 { }", "@for i = -2147483647 .. 2147483647 { }", "@for i = -2147483647 .. 0 { }", "@for i = -2147483647 .. -2147483631 { }", "for i = 1 .. 0 { @for j = 1 .. 17 { } }",
		"for i = 0 .. 1 { for j = 0 .. 1 { @for l = 0 .. 1 { y = 1; } } }", "for i = 0 .. 1 { for j = 0 .. 1 { } for l = 1 .. 0 { if c { } else { @for j = 1 .. 0 { } } } }",
	} {
		invalidBoth(t, s, api.ErrCheckRange)
	}
	// The counter is known within its loop alone, and behind it the name is free again.
	invalidBoth(t, "for i = 0 .. 1 { } n = @i;", api.ErrCheckName)
	invalidBoth(t, "n = @i; for i = 0 .. 1 { }", api.ErrCheckName)
	invalidBoth(t, "for i = 0 .. 1 { for j = 0 .. 1 { } n = i + @j; }", api.ErrCheckName)
	invalidBoth(t, "for i = 0 .. 1 { } @i = 1;", api.ErrCheckName)
	invalid(t, theDecls+" init { for i = 0 .. 1 { n = i; } } step { n = @i; }", api.ErrCheckName)
	invalidBoth(t, "for i = 0 .. 1 { x = @i; }", api.ErrCheckType)
	invalidBoth(t, "for i = 0 .. 1 { n = @i[0]; }", api.ErrCheckIndex)
	invalidBoth(t, "for i = 1 .. 0 { @q = 1; }", api.ErrCheckName)
	for _, s := range []string{"", "step", "1", "a b", strings.Repeat("i", 33)} {
		checked(t, program(nil, api.Stmt{Kind: api.StmtFor, At: 4, Name: s, Hi: 99, Then: []api.Stmt{{At: 8}}}), api.ErrCheckName, 4)
	}
	for want, ends := range map[api.Errno][][2]int32{
		api.OK:            {{-1 << 31, -1<<31 + 15}, {1<<31 - 16, 1<<31 - 1}, {1<<31 - 1, -1 << 31}, {-1 << 31, -1 << 31}},
		api.ErrCheckRange: {{-1 << 31, 1<<31 - 1}, {-1 << 31, -1<<31 + 16}, {-1, 1<<31 - 1}, {-1 << 31, 0}},
	} {
		for _, x := range ends {
			checked(t, program(nil, api.Stmt{Kind: api.StmtFor, At: 4 * int(want), Name: "i", Lo: x[0], Hi: x[1]}), want, 4*int(want))
		}
	}
	// What a loop has no use for does not count.
	checked(t, program(nil, api.Stmt{Kind: api.StmtFor, Name: "i", Index: []api.Expr{{}}, Else: []api.Stmt{{At: 8}}}), api.OK, 0)
}

func TestOtherStmts(t *testing.T) {
	for _, kind := range []api.StmtKind{0, 4, 5, 255} {
		s := api.Stmt{Kind: kind, At: 6, Name: "n", Expr: name(7, "q"), Then: []api.Stmt{{Kind: api.StmtAssign, At: 8}}}
		checked(t, program(nil, s), api.ErrCheckType, 6)
		checked(t, api.Program{Ticks: 1, Init: []api.Stmt{s}, Step: []api.Stmt{{At: 5}}}, api.ErrCheckType, 6)
	}
}

// TestPartsInOrder: the ticks, the declarations, Init, and then Step.
func TestPartsInOrder(t *testing.T) {
	p := api.Program{Decls: []api.Decl{{At: 3, Name: "n"}}, Init: []api.Stmt{{At: 2}}, Step: []api.Stmt{{At: 1}}}
	checked(t, p, api.ErrCheckRange, 0)
	p.Ticks = 1
	checked(t, p, api.ErrCheckType, 3)
	p.Decls[0].Type = api.TypeInt
	checked(t, p, api.ErrCheckType, 2)
	p.Init = nil
	checked(t, p, api.ErrCheckType, 1)
	p.Step = nil
	checked(t, p, api.OK, 0)
	checked(t, program(nil, api.Stmt{At: -5}), api.ErrCheckType, -5)
	checked(t, program([]api.Decl{{At: -9}}), api.ErrCheckName, -9)
}

// TestInputsInInit: an input is read in Step alone.
func TestInputsInInit(t *testing.T) {
	for _, s := range []string{"x = @u;", "n = @k + 1;", "c = !@b;", "v[@k] = 1.0;", "x = v[@k];", "if @b { }", "if c { for i = 0 .. 1 { n = i + @k; } }"} {
		invalid(t, inInit(s), api.ErrCheckWrite)
		valid(t, inStep(strings.Replace(s, "@", "", 1)))
	}
	// That it is an input counts ahead of its index.
	index := []api.Stmt{{Kind: api.StmtIf, Expr: name(6, "b", name(7, "q"))}}
	decls := []api.Decl{{Name: "b", Type: api.TypeBool, Input: true}}
	checked(t, api.Program{Ticks: 1, Decls: decls, Init: index}, api.ErrCheckWrite, 6)
	checked(t, api.Program{Ticks: 1, Decls: decls, Step: index}, api.ErrCheckIndex, 6)
}

func TestNames(t *testing.T) {
	validBoth(t, "x = x; n = w[n]; c = z[0]; x = v[w[n] + 1];")
	for _, s := range []string{"x = @q;", "x = @q[r];", "x = v[@q];", "n = n + @N;", "x = abs(-@q);"} {
		invalidBoth(t, s, api.ErrCheckName)
	}
	for _, s := range []string{"x = @v;", "x = @x[q];", "x = @x[0];", "n = w[@w];", "x = @x[0] + q;", "c = @z && q;"} {
		invalidBoth(t, s, api.ErrCheckIndex)
	}
	for _, s := range []string{"x = @v[x];", "x = @v[c];", "x = @v[v[0]];", "x = @v[1.0] + q;", "n = w[@w[true]];", "n = @w[n < n];"} {
		invalidBoth(t, s, api.ErrCheckType)
	}
	decls := []api.Decl{{Name: "v", Type: api.TypeInt, Len: 2}, {Name: "n", Type: api.TypeInt}}
	p := program(decls)
	typed(t, p, name(3, "v", integer(4, 0), name(5, "q")), 0, api.ErrCheckIndex, 3)
	typed(t, p, name(3, "n", name(4, "q"), name(5, "q")), 0, api.ErrCheckIndex, 3)
	typed(t, p, name(3, "v", name(4, "v", boolean(5))), 0, api.ErrCheckType, 4)
	typed(t, p, name(3, "v", name(4, "q")), 0, api.ErrCheckName, 4)
	typed(t, p, api.Expr{Op: api.OpName, Name: "n", Bool: true, Int: 3, Float: quietNaN}, api.TypeInt, api.OK, 0)
}

// TestOperations: each operation with all types of no operands to three.
func TestOperations(t *testing.T) {
	var decls []api.Decl
	for kind, letter := range theLetters {
		decls = append(decls, api.Decl{Name: letter, Type: kind})
	}
	p := program(decls)
	given := []string{""}
	for len(given[0]) < 4 {
		var longer []string
		for _, s := range given {
			for o := range 256 {
				e := api.Expr{Op: api.Op(o), At: 77}
				for i := range len(s) {
					e.Args = append(e.Args, name(i, s[i:i+1]))
				}
				if e.Op == api.OpName {
					continue
				}
				want, err, at := operationText(e.Op, s), api.OK, 0
				if want == api.TypeNone {
					err, at = api.ErrCheckType, 77
				}
				typed(t, p, e, want, err, at)
			}
			longer = append(longer, s+"b", s+"i", s+"f")
		}
		given = longer
	}
}

// operationText finds the way of the table that begins with these operands.
func operationText(o api.Op, operands string) api.Type {
	for _, way := range strings.Fields(theOperations[o]) {
		if strings.HasPrefix(way, operands+">") {
			return map[string]api.Type{"b": api.TypeBool, "i": api.TypeInt, "f": api.TypeFloat}[way[len(way)-1:]]
		}
	}
	return api.TypeNone
}

func TestOperationsInSources(t *testing.T) {
	for _, s := range []string{
		"x = 1.0 + x - v[0] * x / 2.5;", "n = 1 + n - w[0] * n / 2;", "c = 1 < n && 1.0 <= x || n > 2 && x >= 2.5;", "c = (n == 1) != (x != 0.5); c = (c == true) == (n != 0);",
		"x = -x; n = -n; x = abs(x); n = abs(n); c = !c; n = int(x); x = float(n); n = int(float(int(x)));",
	} {
		validBoth(t, s)
	}
	for _, s := range []string{
		"x = x @+ n;", "n = n @- 1.0;", "x = 1 @* x;", "x = x @/ 2;", "c = c @+ c;", "c = n @< x;", "c = c @< c;", "c = c @>= true;", "c = x @<= 1;", "c = n @> 0.5;", "c = n @== x;", "c = c @!= n;", "c = x @== c;", "c = n @&& c;", "c = c @|| x;", "c = n @&& n;", "c = @!n;", "c = @!x;", "c = @-c;", "c = @abs(c);", "n = @int(n);", "n = @int(c);", "x = @float(x);", "x = @float(c);",
	} {
		invalidBoth(t, s, api.ErrCheckType)
	}
}

// TestOperandsFirst: the operands from left to right, and then the expression, whatever it is.
func TestOperandsFirst(t *testing.T) {
	p := program([]api.Decl{{Name: "n", Type: api.TypeInt}})
	q, r, n := name(5, "q"), name(6, "r", name(7, "s")), name(8, "n")
	typeless := op(api.OpNot, 9, n)
	for o := range 256 {
		o := api.Op(o)
		if o == api.OpName {
			continue
		}
		typed(t, p, op(o, 1, q), 0, api.ErrCheckName, 5)
		typed(t, p, op(o, 1, q, r), 0, api.ErrCheckName, 5)
		typed(t, p, op(o, 1, r, q), 0, api.ErrCheckName, 6)
		typed(t, p, op(o, 1, n, q), 0, api.ErrCheckName, 5)
		typed(t, p, op(o, 1, n, typeless), 0, api.ErrCheckType, 9)
		typed(t, p, op(o, 1, n, n, n, q), 0, api.ErrCheckName, 5)
		typed(t, p, op(o, 1, typeless, q), 0, api.ErrCheckType, 9)
		typed(t, p, op(o, 1, op(o, 2, n, n, n), q), 0, api.ErrCheckType, 2)
	}
}

func TestLiterals(t *testing.T) {
	p := program([]api.Decl{{Name: "n", Type: api.TypeInt}})
	typed(t, p, boolean(3), api.TypeBool, api.OK, 0)
	typed(t, p, integer(3, -1<<31), api.TypeInt, api.OK, 0)
	for _, f := range []api.Float{0, minusNil, one, 1, greatest, greatest | minusNil} {
		typed(t, p, float(3, f), api.TypeFloat, api.OK, 0)
	}
	for _, f := range []api.Float{plusInf, minusInf, quietNaN, otherNaN} {
		typed(t, p, float(3, f), 0, api.ErrCheckRange, 3)
		typed(t, p, op(api.OpNot, 2, float(3, f)), 0, api.ErrCheckRange, 3)
		checked(t, program(p.Decls, api.Stmt{Kind: api.StmtAssign, At: 1, Name: "n", Expr: float(3, f)}), api.ErrCheckRange, 3)
		// That it has operands counts first.
		typed(t, p, api.Expr{Op: api.OpFloat, At: 3, Float: f, Args: []api.Expr{name(4, "n")}}, 0, api.ErrCheckType, 3)
		// Only a float's own number counts.
		typed(t, p, api.Expr{Op: api.OpInt, At: 3, Float: f}, api.TypeInt, api.OK, 0)
		typed(t, p, api.Expr{Op: api.OpNeg, At: 3, Float: f, Args: []api.Expr{integer(4, 1)}}, api.TypeInt, api.OK, 0)
	}
}

// TestTypeOf: the program need not be valid, and no loop encloses the expression.
func TestTypeOf(t *testing.T) {
	p := api.Program{
		Decls: []api.Decl{
			{Name: "x", Type: api.TypeFloat},
			{Name: "x", Type: api.TypeInt, Len: 3},
			{Name: "v", Type: api.TypeInt, Len: 99},
			{Name: "v", Type: api.TypeInt},
			{Name: "step", Type: api.TypeBool},
			{Name: "", Type: api.TypeInt},
			{Name: "u", Type: api.TypeInt, Input: true},
			{Name: "w", Type: api.TypeBool, Input: true, Len: 4},
			{Name: "m", Type: api.TypeInt, Len: -1},
			{Name: "none"},
			{Name: "other", Type: 9},
		},
		Init: []api.Stmt{{}},
		Step: []api.Stmt{{Kind: api.StmtFor, Name: "i", Then: []api.Stmt{{Kind: api.StmtFor, Name: "x"}}}},
	}
	zero := integer(50, 0)
	typed(t, p, name(3, "x"), api.TypeFloat, api.OK, 0)
	typed(t, p, name(3, "x", zero), 0, api.ErrCheckIndex, 3)
	typed(t, p, name(3, "v", zero), api.TypeInt, api.OK, 0)
	typed(t, p, name(3, "v"), 0, api.ErrCheckIndex, 3)
	typed(t, p, name(3, "step"), api.TypeBool, api.OK, 0)
	typed(t, p, name(3, ""), api.TypeInt, api.OK, 0)
	typed(t, p, name(3, "u"), api.TypeInt, api.OK, 0)
	typed(t, p, name(3, "w", zero), api.TypeBool, api.OK, 0)
	typed(t, p, name(3, "w"), 0, api.ErrCheckIndex, 3)
	typed(t, p, name(3, "i"), 0, api.ErrCheckName, 3)
	typed(t, p, name(3, "m", zero), api.TypeInt, api.OK, 0)
	typed(t, p, name(3, "m"), 0, api.ErrCheckIndex, 3)
	typed(t, p, name(3, "none"), api.TypeNone, api.OK, 0)
	typed(t, p, name(3, "other"), 9, api.OK, 0)
	typed(t, p, op(api.OpEq, 3, name(4, "other"), name(5, "other")), api.TypeBool, api.OK, 0)
	typed(t, p, op(api.OpEq, 3, name(4, "other"), name(5, "none")), 0, api.ErrCheckType, 3)
	typed(t, p, op(api.OpAdd, 3, name(4, "other"), name(5, "other")), 0, api.ErrCheckType, 3)
	typed(t, p, op(api.OpNeg, 3, name(4, "none")), 0, api.ErrCheckType, 3)
	typed(t, api.Program{}, zero, api.TypeInt, api.OK, 0)
	typed(t, api.Program{}, api.Expr{}, 0, api.ErrCheckType, 0)
	typed(t, api.Program{}, name(-4, "x"), 0, api.ErrCheckName, -4)
}

// TestTypeOfSource: TypeOf tells of a source's expression what Check tells of it in Step.
func TestTypeOfSource(t *testing.T) {
	p, _ := parsed(t, inStep(""))
	for source, want := range map[string]api.Type{"x < 1.0": api.TypeBool, "n + k": api.TypeInt, "-u": api.TypeFloat, "v[k]": api.TypeFloat, "abs(w[0])": api.TypeInt, "b == z[n]": api.TypeBool, "float(int(x))": api.TypeFloat} {
		e, err, _ := parse.Expr(source)
		if err != api.OK {
			t.Fatal(source, err)
		}
		typed(t, p, e, want, api.OK, 0)
	}
	for source, want := range map[string]struct {
		err api.Errno
		at  int
	}{"x < 1": {api.ErrCheckType, 2}, "n + q": {api.ErrCheckName, 4}, "v": {api.ErrCheckIndex, 0}, "v[u]": {api.ErrCheckType, 0}, "-(b)": {api.ErrCheckType, 0}, "n + -b": {api.ErrCheckType, 4}} {
		e, err, _ := parse.Expr(source)
		if err != api.OK {
			t.Fatal(source, err)
		}
		typed(t, p, e, api.TypeNone, want.err, want.at)
	}
}
