package lower

import (
	"slices"
	"strconv"
	"strings"
	"testing"

	"flyball/api"
	"flyball/parse"
)

// parsed returns the tree of a source.
func parsed(t *testing.T, source string) api.Program {
	t.Helper()
	p, err, at := parse.Parse(source)
	if err != api.OK {
		t.Fatalf("%q: %v at %d", source, err, at)
	}
	return p
}

// lowered returns the code of a source, which must be valid.
func lowered(t *testing.T, source string) api.Code {
	t.Helper()
	c, err, at := Lower(parsed(t, source))
	if err != api.OK || at != 0 {
		t.Fatalf("%q: %v at %d", source, err, at)
	}
	if !Good(c) {
		t.Errorf("%q: not good", source)
	}
	return c
}

// Statements and expressions as the chapter describes them: what is not given is -1, or zero.

func assign(at, cell, expr int) api.Ins {
	return api.Ins{Kind: api.StmtAssign, At: at, Cell: cell, Index: -1, Expr: expr, Loop: -1}
}

func assignTo(at, cell, size, index, expr int) api.Ins {
	return api.Ins{Kind: api.StmtAssign, At: at, Cell: cell, Len: size, Index: index, Expr: expr, Loop: -1}
}

func when(at, expr int, then, otherwise []int) api.Ins {
	return api.Ins{Kind: api.StmtIf, At: at, Cell: -1, Index: -1, Expr: expr, Loop: -1, Then: then, Else: otherwise}
}

func loop(at, number int, lo, hi int32, then ...int) api.Ins {
	return api.Ins{Kind: api.StmtFor, At: at, Cell: -1, Index: -1, Expr: -1, Loop: number, Lo: lo, Hi: hi, Then: then}
}

func op(o api.Op, t api.Type, operands ...int) api.Ex {
	x := api.Ex{Op: o, Type: t, A: -1, B: -1, Cell: -1}
	switch len(operands) {
	case 2:
		x.A, x.B = operands[0], operands[1]
	case 1:
		x.A = operands[0]
	}
	return x
}

func number(n int32) api.Ex {
	x := op(api.OpInt, api.TypeInt)
	x.Int = n
	return x
}

func fraction(f api.Float) api.Ex {
	x := op(api.OpFloat, api.TypeFloat)
	x.Float = f
	return x
}

func truth(b bool) api.Ex {
	x := op(api.OpBool, api.TypeBool)
	x.Bool = b
	return x
}

func read(t api.Type, cell int) api.Ex {
	x := op(api.OpName, t)
	x.Cell = cell
	return x
}

func readFrom(t api.Type, cell, size, index int) api.Ex {
	x := read(t, cell)
	x.Len, x.A = size, index
	return x
}

// count reads the counter of a loop.
func count(number int) api.Ex {
	x := op(api.OpName, api.TypeInt)
	x.Loop = number + 1
	return x
}

// is: a source has this code.
func is(t *testing.T, source string, want api.Code) {
	t.Helper()
	if c := lowered(t, source); !identical(c, want) {
		t.Errorf("%q:\n%+v, not\n%+v", source, c, want)
	}
}

func TestExample(t *testing.T) {
	is(t, "ticks 1; var x: int; var v: int[2]; init { x = 1; } step { v[x] = x + 2; }", api.Code{
		Ticks: 1,
		Cells: []api.Cell{{Name: "x", Type: api.TypeInt}, {Name: "v", Len: 2, Type: api.TypeInt}, {Name: "v", At: 1, Len: 2, Type: api.TypeInt}},
		Ins:   []api.Ins{assign(43, 0, 0), assignTo(59, 1, 2, 1, 4)},
		Exs:   []api.Ex{number(1), read(api.TypeInt, 0), read(api.TypeInt, 0), number(2), op(api.OpAdd, api.TypeInt, 2, 3)},
		Init:  []int{0},
		Step:  []int{1},
	})
	is(t, "ticks 1; var x: float; init { } step { x = x + 1.0; }", api.Code{
		Ticks: 1,
		Cells: []api.Cell{{Name: "x", Type: api.TypeFloat}},
		Ins:   []api.Ins{assign(39, 0, 2)},
		Exs:   []api.Ex{read(api.TypeFloat, 0), fraction(one), op(api.OpAdd, api.TypeFloat, 0, 1)},
		Step:  []int{0},
	})
}

func TestTicks(t *testing.T) {
	for _, ticks := range []int{1, 2, 2147483646, 2147483647} {
		c, err, at := Lower(api.Program{Ticks: ticks})
		if err != api.OK || at != 0 || !identical(c, api.Code{Ticks: ticks}) || !Good(c) {
			t.Error(ticks, c, err, at)
		}
	}
	for _, ticks := range []int{0, -1, 2147483648, 1 << 32, 1<<32 + 1, -1 << 63, 1<<63 - 1} {
		c, err, at := Lower(api.Program{Ticks: ticks})
		if err != api.ErrCheckRange || at != 0 || !identical(c, api.Code{}) || Good(api.Code{Ticks: ticks}) {
			t.Error(ticks, c, err, at)
		}
	}
}

// TestErrors: those of chapter 12, with their places, and no code with them.
func TestErrors(t *testing.T) {
	const head = "ticks 1; input u: int in [0, 1]; var x: float; var n: int; var v: int[2]; "
	for source, want := range map[string]api.Errno{
		"init { @y = 1; } step { }":                                             api.ErrCheckName,
		"init { } step { n = @y; }":                                             api.ErrCheckName,
		"init { n = @u; } step { }":                                             api.ErrCheckWrite,
		"init { } step { @u = 1; }":                                             api.ErrCheckWrite,
		"init { } step { x = @1; }":                                             api.ErrCheckType,
		"init { } step { x = x @+ 1; }":                                         api.ErrCheckType,
		"init { } step { n = @v; }":                                             api.ErrCheckIndex,
		"init { } step { @v = n; }":                                             api.ErrCheckIndex,
		"init { } step { @for i = 0 .. 16 { } }":                                api.ErrCheckRange,
		"init { } step { for i = 0 .. 1 { } n = @i; }":                          api.ErrCheckName,
		"init { } step { for i = 0 .. 1 { @for i = 0 .. 1 { } } }":              api.ErrCheckTwice,
		"@var n: int; init { } step { }":                                        api.ErrCheckTwice,
		"init { n = 1; if n == 1 { n = 2; } } step { n = 3; if @n { n = 4; } }": api.ErrCheckType,
	} {
		before, behind, _ := strings.Cut(head+source, "@")
		c, err, at := Lower(parsed(t, before+behind))
		if err != want || at != len(before) || !identical(c, api.Code{}) {
			t.Errorf("%q: %v at %d, not %v at %d; %+v", source, err, at, want, len(before), c)
		}
	}
	// A place that the program gives may be anything.
	p := api.Program{Ticks: 1, Step: []api.Stmt{{Kind: api.StmtFor, Name: "i"}, {At: -1 << 63}}}
	if c, err, at := Lower(p); err != api.ErrCheckType || at != -1<<63 || !identical(c, api.Code{}) {
		t.Error(err, at, c)
	}
}

func TestCells(t *testing.T) {
	source := "ticks 7; input u: float in [-1, 2.5]; input k: int in [-3, 5]; var x: float; input b: bool; var v: int[3]; var w: bool[1]; var n: int; input z: float in [-0.0, 2147483647]; init { } step { n = v[0]; w[0] = b; }"
	is(t, source, api.Code{
		Ticks: 7,
		Cells: []api.Cell{
			{Name: "u", Type: api.TypeFloat, Input: true, Lo: 0xbff0000000000000, Hi: 0x4004000000000000},
			{Name: "k", Type: api.TypeInt, Input: true, From: -3, To: 5},
			{Name: "x", Type: api.TypeFloat},
			{Name: "b", Type: api.TypeBool, Input: true},
			{Name: "v", Len: 3, Type: api.TypeInt},
			{Name: "v", At: 1, Len: 3, Type: api.TypeInt},
			{Name: "v", At: 2, Len: 3, Type: api.TypeInt},
			{Name: "w", Len: 1, Type: api.TypeBool},
			{Name: "n", Type: api.TypeInt},
			{Name: "z", Type: api.TypeFloat, Input: true, Lo: minusNil, Hi: 0x41dfffffffc00000},
		},
		Ins:  []api.Ins{assign(strings.Index(source, "n = v"), 8, 1), assignTo(strings.Index(source, "w[0]"), 7, 1, 2, 3)},
		Exs:  []api.Ex{number(0), readFrom(api.TypeInt, 4, 3, 0), number(0), read(api.TypeBool, 3)},
		Step: []int{0, 1},
	})
}

// TestManyCells: as many as there may be.
func TestManyCells(t *testing.T) {
	source := "ticks 1; "
	for i := range 5 {
		source += "var v" + strconv.Itoa(i) + ": float[16]; "
	}
	for i := range 16 {
		source += "input u" + strconv.Itoa(i) + ": bool; "
	}
	c := lowered(t, source+"init { } step { v4[15] = 0.0; }")
	if len(c.Cells) != 96 || c.Ins[0].Cell != 64 || c.Ins[0].Len != 16 || c.Cells[95].Name != "u15" || c.Cells[79] != (api.Cell{Name: "v4", At: 15, Len: 16, Type: api.TypeFloat}) {
		t.Error(c)
	}
	c.Cells = append(c.Cells, api.Cell{Name: "more", Type: api.TypeInt})
	if Good(c) {
		t.Error("97 cells")
	}
}

func TestBlocks(t *testing.T) {
	source := "ticks 1; var n: int; init { if true { n = 1; n = 2; } else { if false { n = 3; } n = 4; } n = 5; } step { if n < 6 { } else if n < 7 { n = 8; } n = 9; }"
	at := func(s string) int { return strings.Index(source, s) }
	is(t, source, api.Code{
		Ticks: 1,
		Cells: []api.Cell{{Name: "n", Type: api.TypeInt}},
		Ins: []api.Ins{
			when(at("if true"), 0, []int{1, 2}, []int{3, 5}), assign(at("n = 1"), 0, 1), assign(at("n = 2"), 0, 2),
			when(at("if false"), 3, []int{4}, nil), assign(at("n = 3"), 0, 4), assign(at("n = 4"), 0, 5), assign(at("n = 5"), 0, 6),
			when(at("if n < 6"), 9, nil, []int{8}), when(at("if n < 7"), 12, []int{9}, nil), assign(at("n = 8"), 0, 13), assign(at("n = 9"), 0, 14),
		},
		Exs: []api.Ex{
			truth(true), number(1), number(2), truth(false), number(3), number(4), number(5),
			read(api.TypeInt, 0), number(6), op(api.OpLess, api.TypeBool, 7, 8),
			read(api.TypeInt, 0), number(7), op(api.OpLess, api.TypeBool, 10, 11),
			number(8), number(9),
		},
		Init: []int{0, 6},
		Step: []int{7, 10},
	})
}

func TestLoops(t *testing.T) {
	source := "ticks 1; var n: int; var v: int[4]; init { for i = 3 .. 5 { for j = -2 .. -1 { n = j - i; } for j = 7 .. 0 { v[j] = i; } } } step { for j = 0 .. 15 { } for i = 1 .. 1 { n = v[v[i]]; } }"
	at := func(s string) int { return strings.Index(source, s) }
	const i = api.TypeInt
	is(t, source, api.Code{
		Ticks: 1,
		Cells: []api.Cell{{Name: "n", Type: i}, {Name: "v", Len: 4, Type: i}, {Name: "v", At: 1, Len: 4, Type: i}, {Name: "v", At: 2, Len: 4, Type: i}, {Name: "v", At: 3, Len: 4, Type: i}},
		Ins: []api.Ins{
			loop(at("for i = 3"), 0, 3, 5, 1, 3), loop(at("for j = -2"), 1, -2, -1, 2), assign(at("n = j"), 0, 2), loop(at("for j = 7"), 2, 7, 0, 4), assignTo(at("v[j]"), 1, 4, 3, 4),
			loop(at("for j = 0"), 3, 0, 15), loop(at("for i = 1"), 4, 1, 1, 7), assign(at("n = v"), 0, 7),
		},
		Exs:   []api.Ex{count(1), count(0), op(api.OpSub, i, 0, 1), count(2), count(0), count(4), readFrom(i, 1, 4, 5), readFrom(i, 1, 4, 6)},
		Init:  []int{0},
		Step:  []int{5, 6},
		Loops: 5,
	})
}

// TestOperations: each of them, with its type and with its operands from left to right.
func TestOperations(t *testing.T) {
	const decls = "ticks 1; var b: bool; var c: bool; var n: int; var m: int; var x: float; var y: float; init { } step { "
	const b, i, f = api.TypeBool, api.TypeInt, api.TypeFloat
	for _, each := range []struct {
		text string
		cell int
		want []api.Ex
	}{
		{"true", 0, []api.Ex{truth(true)}},
		{"false", 0, []api.Ex{truth(false)}},
		{"2147483647", 2, []api.Ex{number(2147483647)}},
		{"0.0", 4, []api.Ex{fraction(0)}},
		{"1.7976931348623157e308", 4, []api.Ex{fraction(greatest)}},
		{"n + m", 2, []api.Ex{read(i, 2), read(i, 3), op(api.OpAdd, i, 0, 1)}},
		{"y + x", 4, []api.Ex{read(f, 5), read(f, 4), op(api.OpAdd, f, 0, 1)}},
		{"n - m", 2, []api.Ex{read(i, 2), read(i, 3), op(api.OpSub, i, 0, 1)}},
		{"x - y", 4, []api.Ex{read(f, 4), read(f, 5), op(api.OpSub, f, 0, 1)}},
		{"m * n", 2, []api.Ex{read(i, 3), read(i, 2), op(api.OpMul, i, 0, 1)}},
		{"x * y", 4, []api.Ex{read(f, 4), read(f, 5), op(api.OpMul, f, 0, 1)}},
		{"n / m", 2, []api.Ex{read(i, 2), read(i, 3), op(api.OpDiv, i, 0, 1)}},
		{"x / y", 4, []api.Ex{read(f, 4), read(f, 5), op(api.OpDiv, f, 0, 1)}},
		{"n < m", 0, []api.Ex{read(i, 2), read(i, 3), op(api.OpLess, b, 0, 1)}},
		{"x < y", 0, []api.Ex{read(f, 4), read(f, 5), op(api.OpLess, b, 0, 1)}},
		{"n <= m", 0, []api.Ex{read(i, 2), read(i, 3), op(api.OpLessEq, b, 0, 1)}},
		{"n == m", 0, []api.Ex{read(i, 2), read(i, 3), op(api.OpEq, b, 0, 1)}},
		{"x == y", 0, []api.Ex{read(f, 4), read(f, 5), op(api.OpEq, b, 0, 1)}},
		{"b == c", 0, []api.Ex{read(b, 0), read(b, 1), op(api.OpEq, b, 0, 1)}},
		{"x != y", 0, []api.Ex{read(f, 4), read(f, 5), op(api.OpNotEq, b, 0, 1)}},
		{"n > m", 0, []api.Ex{read(i, 2), read(i, 3), op(api.OpMore, b, 0, 1)}},
		{"x >= y", 0, []api.Ex{read(f, 4), read(f, 5), op(api.OpMoreEq, b, 0, 1)}},
		{"b && c", 0, []api.Ex{read(b, 0), read(b, 1), op(api.OpAnd, b, 0, 1)}},
		{"c || b", 0, []api.Ex{read(b, 1), read(b, 0), op(api.OpOr, b, 0, 1)}},
		{"-n", 2, []api.Ex{read(i, 2), op(api.OpNeg, i, 0)}},
		{"-x", 4, []api.Ex{read(f, 4), op(api.OpNeg, f, 0)}},
		{"!b", 0, []api.Ex{read(b, 0), op(api.OpNot, b, 0)}},
		{"int(x)", 2, []api.Ex{read(f, 4), op(api.OpToInt, i, 0)}},
		{"float(n)", 4, []api.Ex{read(i, 2), op(api.OpToFloat, f, 0)}},
		{"abs(n)", 2, []api.Ex{read(i, 2), op(api.OpAbs, i, 0)}},
		{"abs(x)", 4, []api.Ex{read(f, 4), op(api.OpAbs, f, 0)}},
		{"(n - m) * -(n + 1)", 2, []api.Ex{read(i, 2), read(i, 3), op(api.OpSub, i, 0, 1), read(i, 2), number(1), op(api.OpAdd, i, 3, 4), op(api.OpNeg, i, 5), op(api.OpMul, i, 2, 6)}},
	} {
		c := lowered(t, decls+"bcnmxy"[each.cell:each.cell+1]+" = "+each.text+"; }")
		if !slices.Equal(c.Exs, each.want) || c.Ins[0].Cell != each.cell || c.Ins[0].Expr != len(c.Exs)-1 {
			t.Errorf("%q: %+v", each.text, c)
		}
	}
}

// TestNoUse: what a program says where it has no meaning is not in the code, and not counted.
func TestNoUse(t *testing.T) {
	junk := api.Expr{Op: api.OpName, At: 9, Bool: true, Int: 7, Float: quietNaN, Name: "nobody", Args: []api.Expr{{}, {}}}
	value := func(o api.Op, args ...api.Expr) api.Expr {
		return api.Expr{Op: o, At: 9, Bool: true, Int: 7, Float: one, Name: "x", Args: args}
	}
	rest := []api.Stmt{{Kind: api.StmtFor, Name: "i"}, {}}
	n := value(api.OpInt)
	p := api.Program{Ticks: 1,
		Decls: []api.Decl{{Name: "x", Type: api.TypeInt, Lo: junk, Hi: junk}, {Name: "b", Input: true, Type: api.TypeBool, Lo: n, Hi: n}, {Name: "k", Input: true, Type: api.TypeInt, Range: true, Lo: n, Hi: n}, {Name: "u", Input: true, Type: api.TypeFloat, Range: true, Lo: value(api.OpFloat, junk), Hi: value(api.OpInt, junk)}},
		Init:  []api.Stmt{{Kind: api.StmtAssign, At: -5, Name: "x", Expr: value(api.OpAdd, n, value(api.OpName)), Lo: 5, Hi: 3, Then: rest, Else: rest}},
		Step: []api.Stmt{
			{Kind: api.StmtIf, At: 6, Name: "x", Index: []api.Expr{junk, n}, Expr: value(api.OpLess, n, value(api.OpToInt, value(api.OpFloat))), Lo: 1, Hi: 99},
			{Kind: api.StmtFor, At: 7, Name: "j", Index: []api.Expr{junk}, Expr: junk, Lo: 1, Hi: 2, Else: rest},
			{Kind: api.StmtIf, At: 8, Expr: value(api.OpBool)},
		},
	}
	want := api.Code{Ticks: 1,
		Cells: []api.Cell{{Name: "x", Type: api.TypeInt}, {Name: "b", Type: api.TypeBool, Input: true}, {Name: "k", Type: api.TypeInt, Input: true, From: 7, To: 7}, {Name: "u", Type: api.TypeFloat, Input: true, Lo: one, Hi: 0x401c000000000000}},
		Ins:   []api.Ins{assign(-5, 0, 2), when(6, 6, nil, nil), loop(7, 0, 1, 2), when(8, 7, nil, nil)},
		Exs: []api.Ex{
			number(7), read(api.TypeInt, 0), op(api.OpAdd, api.TypeInt, 0, 1),
			number(7), fraction(one), op(api.OpToInt, api.TypeInt, 4), op(api.OpLess, api.TypeBool, 3, 5),
			truth(true),
		},
		Init:  []int{0},
		Step:  []int{1, 2, 3},
		Loops: 1,
	}
	if c, err, at := Lower(p); err != api.OK || at != 0 || !identical(c, want) || !Good(c) {
		t.Errorf("%v at %d: %+v", err, at, c)
	}
}

// TestRepeated: a program may hold one list at many places.
func TestRepeated(t *testing.T) {
	e := api.Expr{Op: api.OpInt, Int: 1}
	for range 3 {
		e = api.Expr{Op: api.OpAdd, Args: []api.Expr{e, e}}
	}
	body := []api.Stmt{{Kind: api.StmtAssign, Name: "n", Expr: e}}
	for i := range 2 {
		body = []api.Stmt{{Kind: api.StmtFor, Name: "i" + strconv.Itoa(i), Then: body}, {Kind: api.StmtIf, Expr: api.Expr{Op: api.OpBool}, Then: body, Else: body}}
	}
	c, err, _ := Lower(api.Program{Ticks: 1, Decls: []api.Decl{{Name: "n", Type: api.TypeInt}}, Init: body, Step: body})
	if err != api.OK || len(c.Ins) != 2*(2+3*(2+3)) || len(c.Exs) != 2*(9*15+3+1) || c.Loops != 2*(1+3) || !Good(c) || !wantGood(c) {
		t.Error(err, len(c.Ins), len(c.Exs), c.Loops)
	}
}
