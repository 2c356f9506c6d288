package lower

import (
	"reflect"
	"slices"
	"strings"
	"testing"

	"flyball/api"
)

// theSource has all that there is to be spoilt.
const theSource = "ticks 4; input u: float in [-1, 2.5]; input k: int in [1, 3]; input b: bool; var x: float; var n: int; var v: int[2]; var c: bool; var w: float[1]; " +
	"init { x = -1.5; if true { v[1] = 2; } else { c = !c; for i = 0 .. 3 { n = i; } } } " +
	"step { for i = 0 .. 1 { for j = -3 .. 12 { v[v[i + j]] = k - n; } if u < x || b { v[i] = i; } else { w[0] = float(v[k]) / u; x = abs(w[n]); } } n = int(x); if c && (n == 1) != b { } }"

// copied shares no memory with a code.
func copied(c api.Code) api.Code {
	c.Cells, c.Exs, c.Ins, c.Init, c.Step = slices.Clone(c.Cells), slices.Clone(c.Exs), slices.Clone(c.Ins), slices.Clone(c.Init), slices.Clone(c.Step)
	for i := range c.Ins {
		c.Ins[i].Then, c.Ins[i].Else = slices.Clone(c.Ins[i].Then), slices.Clone(c.Ins[i].Else)
	}
	return c
}

// checkGood: Good tells whether there is a program; and it leaves the code as it is.
func checkGood(t *testing.T, c api.Code) bool {
	t.Helper()
	kept := copied(c)
	good := Good(c)
	if good != wantGood(c) {
		t.Fatalf("%v: %+v", good, c)
	}
	if !identical(c, kept) {
		t.Fatalf("changed: %+v, from %+v", c, kept)
	}
	return good
}

// spoilt: a change makes a good code of theSource a bad one.
func spoilt(t *testing.T, what string, change func(c *api.Code)) {
	t.Helper()
	c := lowered(t, theSource)
	change(&c)
	if checkGood(t, c) {
		t.Errorf("%s: %+v", what, c)
	}
}

// unspoilt: a change leaves it good.
func unspoilt(t *testing.T, what string, change func(c *api.Code)) {
	t.Helper()
	c := lowered(t, theSource)
	change(&c)
	if !checkGood(t, c) {
		t.Errorf("%s: %+v", what, c)
	}
}

// The places of theSource.
const (
	cellU, cellK, cellB, cellX, cellN, cellV, cellC, cellW = 0, 1, 2, 3, 4, 5, 7, 8
	insX, insIf, insV, insC, insFor, insN                  = 0, 1, 2, 3, 4, 5
	insLoop, insInner, insVV, insWhen, insVI, insW, insAbs = 6, 7, 8, 9, 10, 11, 12
	insInt, insLast                                        = 13, 14
)

func TestPlaces(t *testing.T) {
	c := lowered(t, theSource)
	for i, want := range map[int]string{cellU: "u", cellK: "k", cellB: "b", cellX: "x", cellN: "n", cellV: "v", cellV + 1: "v", cellC: "c", cellW: "w"} {
		if c.Cells[i].Name != want {
			t.Error(i, want)
		}
	}
	for i, want := range map[int]string{insX: "x = -", insIf: "if true", insV: "v[1]", insC: "c = ", insFor: "for i = 0 .. 3", insN: "n = i", insLoop: "for i = 0 .. 1", insInner: "for j", insVV: "v[v", insWhen: "if u", insVI: "v[i] =", insW: "w[0]", insAbs: "x = abs", insInt: "n = int", insLast: "if c &&"} {
		if c.Ins[i].At != strings.Index(theSource, want) {
			t.Error(i, want)
		}
	}
	if len(c.Cells) != 9 || len(c.Ins) != 15 || c.Loops != 3 {
		t.Error(c)
	}
}

func TestGoodWhole(t *testing.T) {
	if Good(api.Code{}) || !Good(api.Code{Ticks: 1}) || !Good(api.Code{Ticks: 1, Init: []int{}, Step: []int{}, Ins: []api.Ins{}, Exs: []api.Ex{}, Cells: []api.Cell{}}) {
		t.Error("without anything")
	}
	for _, ticks := range []int{1, 99, 2147483647} {
		unspoilt(t, "ticks", func(c *api.Code) { c.Ticks = ticks })
	}
	for _, ticks := range []int{0, -1, 2147483648, -1 << 63, 1<<63 - 1} {
		spoilt(t, "ticks", func(c *api.Code) { c.Ticks = ticks })
	}
	for _, loops := range []int{0, 2, 4, -1, -1 << 63, 1<<63 - 1} {
		spoilt(t, "loops", func(c *api.Code) { c.Loops = loops })
	}
	for _, at := range []int{0, -1, -1 << 63, 1<<63 - 1} {
		unspoilt(t, "places", func(c *api.Code) {
			for i := range c.Ins {
				c.Ins[i].At = at
			}
		})
	}
	unspoilt(t, "lists that are not nil", func(c *api.Code) {
		for i := range c.Ins {
			c.Ins[i].Then = append(make([]int, 0, 20), c.Ins[i].Then...)
			c.Ins[i].Else = append(make([]int, 0, 20), c.Ins[i].Else...)
		}
	})
}

func TestGoodCells(t *testing.T) {
	for _, name := range []string{"q", "a_name_that_is_just_32_bytes_lon", "tick"} {
		unspoilt(t, "name", func(c *api.Code) { c.Cells[cellU].Name = name })
		unspoilt(t, "names", func(c *api.Code) { c.Cells[cellV].Name, c.Cells[cellV+1].Name = name, name })
		spoilt(t, "one name of two", func(c *api.Code) { c.Cells[cellV].Name = name })
		spoilt(t, "one name of two", func(c *api.Code) { c.Cells[cellV+1].Name = name })
	}
	for _, name := range []string{"", "step", "1", "a b", "é", "\xff", "a_name_that_is_just_33_bytes_long", "k", "v", "w"} {
		spoilt(t, "name", func(c *api.Code) { c.Cells[cellU].Name = name })
	}
	for _, i := range []int{cellU, cellX, cellV, cellV + 1, cellW} {
		for _, n := range []int{-1, 1, 2, 3, 16, 17, -1 << 63, 1<<63 - 1} {
			if n != c0(i).At {
				spoilt(t, "At", func(c *api.Code) { c.Cells[i].At = n })
			}
			if n != c0(i).Len {
				spoilt(t, "Len", func(c *api.Code) { c.Cells[i].Len = n })
			}
		}
		spoilt(t, "input", func(c *api.Code) { c.Cells[i].Input = !c.Cells[i].Input })
		for _, kind := range []api.Type{0, 1, 2, 3, 4, 255} {
			if kind != c0(i).Type {
				spoilt(t, "type", func(c *api.Code) { c.Cells[i].Type = kind })
			}
		}
		spoilt(t, "one cell less", func(c *api.Code) { c.Cells = slices.Delete(c.Cells, i, i+1) })
	}
	spoilt(t, "cells swapped", func(c *api.Code) { c.Cells[cellV], c.Cells[cellV+1] = c.Cells[cellV+1], c.Cells[cellV] })
	spoilt(t, "a name twice", func(c *api.Code) { c.Cells = append(c.Cells, c.Cells[cellX]) })
	spoilt(t, "an array twice", func(c *api.Code) { c.Cells = append(c.Cells, c.Cells[cellV], c.Cells[cellV+1]) })
	spoilt(t, "half an array", func(c *api.Code) { c.Cells = append(c.Cells, api.Cell{Name: "q", Len: 2, Type: api.TypeInt}) })
	unspoilt(t, "a cell more", func(c *api.Code) { c.Cells = append(c.Cells, api.Cell{Name: "q", Type: api.TypeInt}) })
}

// c0 is a cell of theSource's code.
func c0(i int) api.Cell {
	c := [...]api.Cell{cellU: {Type: api.TypeFloat}, cellX: {Type: api.TypeFloat}, cellV: {Len: 2, Type: api.TypeInt}, cellV + 1: {At: 1, Len: 2, Type: api.TypeInt}, cellW: {Len: 1, Type: api.TypeFloat}}
	return c[i]
}

func TestGoodRanges(t *testing.T) {
	for _, f := range []api.Float{0, minusNil, one | minusNil, 0x4003ffffffffffff, 0x4004000000000000} {
		unspoilt(t, "from a float", func(c *api.Code) { c.Cells[cellU].Lo = f })
		spoilt(t, "a float of another type", func(c *api.Code) { c.Cells[cellK].Lo, c.Cells[cellK].Hi = f|1, f|1 })
	}
	for _, f := range []api.Float{0x4004000000000001, greatest, plusInf, minusInf, quietNaN, quietNaN | minusNil} {
		spoilt(t, "from a float", func(c *api.Code) { c.Cells[cellU].Lo = f })
	}
	for _, f := range []api.Float{one | minusNil, 0, minusNil, greatest} {
		unspoilt(t, "to a float", func(c *api.Code) { c.Cells[cellU].Hi = f })
	}
	for _, f := range []api.Float{0xbff0000000000001, greatest | minusNil, plusInf, minusInf, quietNaN} {
		spoilt(t, "to a float", func(c *api.Code) { c.Cells[cellU].Hi = f })
	}
	unspoilt(t, "from 0 to -0", func(c *api.Code) { c.Cells[cellU].Lo, c.Cells[cellU].Hi = 0, minusNil })
	for _, n := range []int32{-1 << 31, 0, 3} {
		unspoilt(t, "from an integer", func(c *api.Code) { c.Cells[cellK].From = n })
	}
	for _, n := range []int32{4, 1<<31 - 1} {
		unspoilt(t, "to an integer", func(c *api.Code) { c.Cells[cellK].To = n })
		spoilt(t, "from an integer", func(c *api.Code) { c.Cells[cellK].From = n })
	}
	for _, n := range []int32{0, -1 << 31} {
		spoilt(t, "to an integer", func(c *api.Code) { c.Cells[cellK].To = n })
	}
	for _, i := range []int{cellU, cellB, cellX, cellN, cellV, cellV + 1, cellW} {
		spoilt(t, "an integer of another type", func(c *api.Code) { c.Cells[i].From = -1 })
		spoilt(t, "an integer of another type", func(c *api.Code) { c.Cells[i].To = 1 })
	}
	for _, i := range []int{cellK, cellB, cellX, cellN, cellV, cellV + 1, cellW} {
		spoilt(t, "a float of another type", func(c *api.Code) { c.Cells[i].Lo = minusNil })
		spoilt(t, "a float of another type", func(c *api.Code) { c.Cells[i].Hi = minusNil })
	}
}

// TestGoodNumbering: numbers are in the order in which statements and expressions are reached, each is used once.
func TestGoodNumbering(t *testing.T) {
	spoilt(t, "a block twice", func(c *api.Code) { c.Init = append(c.Init, c.Init[0]) })
	spoilt(t, "a statement of none", func(c *api.Code) { c.Step = c.Step[:1] })
	spoilt(t, "a statement of none", func(c *api.Code) { c.Ins = append(c.Ins, c.Ins[insInt]) })
	spoilt(t, "one that there is not", func(c *api.Code) { c.Step = append(c.Step, len(c.Ins)) })
	spoilt(t, "a step ahead of init", func(c *api.Code) { c.Init, c.Step = c.Step, c.Init })
	spoilt(t, "one within itself", func(c *api.Code) { c.Ins[insIf].Then[0] = insIf })
	spoilt(t, "one that is within it", func(c *api.Code) { c.Ins[insLoop].Then[0] = insLoop })
	spoilt(t, "then and else", func(c *api.Code) { x := &c.Ins[insWhen]; x.Then, x.Else = x.Else, x.Then })
	unspoilt(t, "then instead of else", func(c *api.Code) { x := &c.Ins[insWhen]; x.Then, x.Else = append(x.Then, x.Else...), nil })
	unspoilt(t, "else instead of then", func(c *api.Code) { x := &c.Ins[insWhen]; x.Then, x.Else = nil, append(x.Then, x.Else...) })
	unspoilt(t, "within another block", func(c *api.Code) { c.Ins[insLast].Then = nil; c.Step = []int{insLoop, insInt, insLast} })
	unspoilt(t, "within another block", func(c *api.Code) {
		c.Step = []int{insLoop, insInt}
		c.Ins[insLoop].Then = []int{insInner, insWhen}
		c.Ins[insWhen].Then, c.Ins[insWhen].Else = []int{insVI, insW}, []int{insAbs}
		c.Step = append(c.Step, insLast)
	})
	unspoilt(t, "behind a loop", func(c *api.Code) { // insVI has no use for the loop any more
		c.Exs[c.Ins[insVI].Index], c.Exs[c.Ins[insVI].Expr] = number(0), number(1)
		c.Ins[insLoop].Then, c.Step = []int{insInner}, []int{insLoop, insWhen, insInt, insLast}
	})
	spoilt(t, "behind its loop", func(c *api.Code) {
		c.Ins[insLoop].Then, c.Step = []int{insInner}, []int{insLoop, insWhen, insInt, insLast}
	})
	spoilt(t, "behind its loop", func(c *api.Code) { c.Ins[insInner].Then, c.Ins[insLoop].Then = nil, []int{insInner, insVV, insWhen} })
	spoilt(t, "an input in init", func(c *api.Code) { c.Init, c.Step = append(c.Init, c.Step...), nil })
	unspoilt(t, "all in step", func(c *api.Code) { c.Init, c.Step = nil, append(c.Init, c.Step...) })
	spoilt(t, "an expression of none", func(c *api.Code) { c.Exs = append(c.Exs, number(1)) })
	spoilt(t, "one expression less", func(c *api.Code) { c.Exs = c.Exs[:len(c.Exs)-1] })
	spoilt(t, "one expression twice", func(c *api.Code) { c.Ins[insX].Expr = c.Ins[insIf].Expr })
	spoilt(t, "operands swapped", func(c *api.Code) { x := &c.Exs[c.Ins[insLast].Expr]; x.A, x.B = x.B, x.A })
	spoilt(t, "an operand twice", func(c *api.Code) { x := &c.Exs[c.Ins[insLast].Expr]; x.A = x.B })
	spoilt(t, "an operand of itself", func(c *api.Code) { e := c.Ins[insAbs].Expr; c.Exs[e].A = e })
}

func TestGoodStmts(t *testing.T) {
	for i := range 15 {
		x := lowered(t, theSource).Ins[i]
		for _, kind := range []api.StmtKind{0, 1, 2, 3, 4, 255} {
			if kind != x.Kind {
				spoilt(t, "kind", func(c *api.Code) { c.Ins[i].Kind = kind })
			}
		}
		for _, n := range []int{-2, 0, 15, -1 << 63, 1<<63 - 1} {
			if n != x.Loop {
				spoilt(t, "loop", func(c *api.Code) { c.Ins[i].Loop = n })
			}
			if n != x.Len {
				spoilt(t, "length", func(c *api.Code) { c.Ins[i].Len = n })
			}
			if n != x.Cell && !(i == insC) {
				spoilt(t, "cell", func(c *api.Code) { c.Ins[i].Cell = n })
			}
			if n != x.Expr {
				spoilt(t, "expression", func(c *api.Code) { c.Ins[i].Expr = n })
			}
			if n != x.Index {
				spoilt(t, "index", func(c *api.Code) { c.Ins[i].Index = n })
			}
			spoilt(t, "then", func(c *api.Code) { c.Ins[i].Then = append(c.Ins[i].Then, n) })
			spoilt(t, "else", func(c *api.Code) { c.Ins[i].Else = append(c.Ins[i].Else, n) })
		}
		if x.Kind != api.StmtFor {
			spoilt(t, "Lo", func(c *api.Code) { c.Ins[i].Lo = -1 })
			spoilt(t, "Hi", func(c *api.Code) { c.Ins[i].Hi = 1 })
		}
	}
	for _, i := range []int{insInner, insLoop, insFor} {
		for lo, his := range map[int32][2]int32{0: {15, 16}, -3: {12, 13}, 1<<31 - 16: {1<<31 - 1, 0}, -1 << 31: {-1<<31 + 15, -1<<31 + 16}, 5: {-1 << 31, 21}} {
			unspoilt(t, "rounds", func(c *api.Code) { c.Ins[i].Lo, c.Ins[i].Hi = lo, his[0] })
			if lo != 1<<31-16 {
				spoilt(t, "rounds", func(c *api.Code) { c.Ins[i].Lo, c.Ins[i].Hi = lo, his[1] })
				spoilt(t, "rounds", func(c *api.Code) { c.Ins[i].Lo, c.Ins[i].Hi = lo, 1<<31-1 })
			}
		}
	}
	spoilt(t, "an else of a loop", func(c *api.Code) { x := &c.Ins[insFor]; x.Then, x.Else = nil, x.Then })
	spoilt(t, "a block of an assignment", func(c *api.Code) { c.Ins[insInt].Then, c.Step = []int{insLast}, c.Step[:2] })
	spoilt(t, "a block of an assignment", func(c *api.Code) { c.Ins[insInt].Else, c.Step = []int{insLast}, c.Step[:2] })
	spoilt(t, "to an input", func(c *api.Code) { c.Ins[insX].Cell = cellU })
	spoilt(t, "to the middle of an array", func(c *api.Code) { c.Ins[insV].Cell = cellV + 1 })
	spoilt(t, "to another type", func(c *api.Code) { c.Ins[insX].Cell = cellN })
	spoilt(t, "to an array without an index", func(c *api.Code) { c.Ins[insN].Cell, c.Ins[insN].Len = cellV, 2 })
	spoilt(t, "loops swapped", func(c *api.Code) { c.Ins[insLoop].Loop, c.Ins[insInner].Loop = 2, 1 })
}

// TestGoodLoops: loops within one another, also with conditions between them, and ahead of more loops.
func TestGoodLoops(t *testing.T) {
	two := []api.Ins{loop(0, 0, 0, 1, 1), when(0, 0, []int{2}, nil), loop(0, 1, 0, 1)}
	three := []api.Ins{loop(0, 0, 0, 1, 1), loop(0, 1, 0, 1, 2), when(0, 0, nil, []int{3}), loop(0, 2, 0, 1)}
	side := []api.Ins{loop(0, 0, 0, 1, 1, 2), loop(0, 1, 0, 1), when(0, 0, []int{3}, nil), loop(0, 2, 0, 1)}
	for i, l := range [][]api.Ins{two, three, side} {
		c := api.Code{Ticks: 1, Ins: l, Exs: []api.Ex{truth(true)}, Step: []int{0}, Loops: min(2+i, 3)}
		if good := checkGood(t, c); good != (i != 1) {
			t.Error(i, good)
		}
	}
}

func TestGoodExprs(t *testing.T) {
	all := lowered(t, theSource).Exs
	for i, x := range all {
		for _, kind := range []api.Type{0, 1, 2, 3, 4, 255} {
			if kind != x.Type {
				spoilt(t, "type", func(c *api.Code) { c.Exs[i].Type = kind })
			}
		}
		for _, n := range []int{-2, i, i + 1, len(all), -1 << 63, 1<<63 - 1} {
			spoilt(t, "A", func(c *api.Code) { c.Exs[i].A = n })
			spoilt(t, "B", func(c *api.Code) { c.Exs[i].B = n })
			if n != x.Cell && n != x.Len && n != x.Loop {
				spoilt(t, "length", func(c *api.Code) { c.Exs[i].Len = n })
				spoilt(t, "loop", func(c *api.Code) { c.Exs[i].Loop = n + 6 })
			}
		}
		for o := range api.Op(24) {
			if o != x.Op && (x.Op <= api.OpName || o <= api.OpName || x.Op < api.OpNeg != (o < api.OpNeg)) {
				spoilt(t, "operation", func(c *api.Code) { c.Exs[i].Op = o })
			}
		}
		if x.Op != api.OpBool {
			spoilt(t, "Bool", func(c *api.Code) { c.Exs[i].Bool = true })
		}
		if x.Op != api.OpInt {
			spoilt(t, "Int", func(c *api.Code) { c.Exs[i].Int = 1 })
		}
		if x.Op != api.OpFloat {
			spoilt(t, "Float", func(c *api.Code) { c.Exs[i].Float = minusNil })
		}
		if x.Op != api.OpName {
			spoilt(t, "Cell", func(c *api.Code) { c.Exs[i].Cell = 0 })
		}
	}
	first := func(o api.Op) int { return slices.IndexFunc(all, func(x api.Ex) bool { return x.Op == o }) }
	unspoilt(t, "a literal", func(c *api.Code) {
		c.Exs[first(api.OpBool)].Bool, c.Exs[first(api.OpInt)].Int, c.Exs[first(api.OpFloat)].Float = false, -1<<31, minusNil|greatest
	})
	// What has no type is not even an operand of what ignores it.
	for o := range api.Op(24) {
		for _, kind := range []api.Type{0, 4, 255} {
			spoilt(t, "no type", func(c *api.Code) { x := &c.Exs[c.Exs[c.Ins[insInt].Expr].A]; *x = op(o, kind) })
			spoilt(t, "no type", func(c *api.Code) { x := &c.Exs[c.Exs[c.Ins[insC].Expr].A]; *x = op(o, kind) })
		}
	}
	for _, f := range []api.Float{plusInf, minusInf, quietNaN, plusInf | 1, ^api.Float(0)} {
		spoilt(t, "not finite", func(c *api.Code) { c.Exs[first(api.OpFloat)].Float = f })
	}
}

func TestGoodNames(t *testing.T) {
	c := lowered(t, theSource)
	inner := c.Ins[insVV].Expr
	k, n := c.Exs[inner].A, c.Exs[inner].B
	if c.Exs[k].Cell != cellK || c.Exs[n].Cell != cellN {
		t.Fatal(c)
	}
	for i, good := range []bool{cellU: false, cellK: true, cellB: false, cellX: false, cellN: true, cellV: false, cellV + 1: false, cellC: false, cellW: false, 9: false} {
		change := func(c *api.Code) { c.Exs[k].Cell = i }
		if good {
			unspoilt(t, "a cell", change)
		} else {
			spoilt(t, "a cell", change)
		}
	}
	for number, good := range []bool{false, true, true, false, false} { // those around it are 1 and 2
		change := func(c *api.Code) { c.Exs[k].Cell, c.Exs[k].Loop = -1, number+1 }
		if good {
			unspoilt(t, "a counter", change)
		} else {
			spoilt(t, "a counter", change)
		}
		spoilt(t, "a counter and a cell", func(c *api.Code) { c.Exs[k].Loop = number + 1 })
	}
	for _, loop := range []int{-1, -2, -1 << 63, 1<<63 - 1} {
		spoilt(t, "a counter", func(c *api.Code) { c.Exs[k].Cell, c.Exs[k].Loop = -1, loop })
	}
	spoilt(t, "neither", func(c *api.Code) { c.Exs[k].Cell = -1 })
	spoilt(t, "an array without its index", func(c *api.Code) { c.Exs[k].Cell, c.Exs[k].Len = cellV, 2 })
	start := c.Exs[c.Exs[c.Ins[insC].Expr].A]
	if start.Cell != cellC {
		t.Fatal(start)
	}
	spoilt(t, "an input in init", func(c *api.Code) { c.Exs[c.Exs[c.Ins[insC].Expr].A].Cell = cellB })
	spoilt(t, "a counter with an index", func(c *api.Code) {
		x := &c.Exs[c.Exs[c.Ins[insAbs].Expr].A]
		*x = api.Ex{Op: api.OpName, Type: api.TypeInt, A: x.A, B: -1, Cell: -1, Loop: 2}
	})
	spoilt(t, "a cell with an index", func(c *api.Code) { x := &c.Exs[c.Exs[c.Ins[insAbs].Expr].A]; x.Cell, x.Len = cellX, 0 })
	spoilt(t, "two indexes", func(c *api.Code) { // v[v[i, j]]
		sum := &c.Exs[c.Exs[c.Ins[insVV].Index].A]
		sum.Op, sum.Cell, sum.Len = api.OpName, cellV, 2
	})
	spoilt(t, "an index of another type", func(c *api.Code) { c.Exs[c.Ins[insV].Index] = fraction(one) })
	spoilt(t, "an index of another type", func(c *api.Code) {
		c.Exs[c.Exs[c.Exs[c.Ins[insAbs].Expr].A].A] = read(api.TypeBool, cellC)
	})
}

// TestEachField: each field of good codes is changed to all sorts of things, one at a time.
func TestEachField(t *testing.T) {
	s := stream(131)
	codes := []api.Code{lowered(t, theSource)}
	for range 5 {
		c, _, _ := Lower(s.valid(3))
		codes = append(codes, c)
	}
	good, bad := 0, 0
	for _, c := range codes {
		eachField(reflect.ValueOf(&c).Elem(), func(v reflect.Value) {
			old := reflect.ValueOf(v.Interface())
			for _, x := range others(v, len(c.Ins), len(c.Exs), len(c.Cells)) {
				v.Set(x)
				if checkGood(t, c) {
					good++
				} else {
					bad++
				}
			}
			v.Set(old)
		})
		if !checkGood(t, c) {
			t.Fatal("not put back")
		}
	}
	if good < 1000 || bad < 30000 {
		t.Error(good, bad)
	}
}

// eachField visits all that there is within a value but for structs, and the elements of lists behind the lists.
func eachField(v reflect.Value, visit func(v reflect.Value)) {
	switch v.Kind() {
	case reflect.Struct:
		for i := range v.NumField() {
			eachField(v.Field(i), visit)
		}
	case reflect.Slice:
		visit(v)
		for i := range v.Len() {
			eachField(v.Index(i), visit)
		}
	default:
		visit(v)
	}
}

// others are values of a field's type, these numbers among them.
func others(v reflect.Value, numbers ...int) []reflect.Value {
	var l []reflect.Value
	add := func(x any) { l = append(l, reflect.ValueOf(x).Convert(v.Type())) }
	switch v.Interface().(type) {
	case int:
		old := int(v.Int())
		for _, n := range append(numbers, old-1, old+1, -2, -1, 0, 1, 2, 3, 16, 17, -1<<63, 1<<63-1) {
			add(n)
		}
	case int32:
		for _, n := range []int32{-1, 0, 1, 15, 16, -1 << 31, 1<<31 - 1} {
			add(n)
		}
	case api.Float:
		for _, f := range []api.Float{0, minusNil, one, greatest, plusInf, quietNaN} {
			add(f)
		}
	case string:
		for _, name := range append(strings.Fields(theNames), "", "step", "1", "loop1", "a b") {
			add(name)
		}
	case bool:
		add(!v.Bool())
	case api.Op, api.Type, api.StmtKind:
		for n := range 24 {
			add(n)
		}
	default:
		for i := range v.Len() {
			l = append(l, reflect.AppendSlice(reflect.AppendSlice(reflect.Zero(v.Type()), v.Slice(0, i)), v.Slice(i+1, v.Len())))
			l = append(l, reflect.AppendSlice(reflect.AppendSlice(reflect.Zero(v.Type()), v.Slice(0, i+1)), v.Slice(i, v.Len())))
		}
		l = append(l, reflect.Zero(v.Type()), reflect.Append(reflect.AppendSlice(reflect.Zero(v.Type()), v), reflect.Zero(v.Type().Elem())))
	}
	return l
}
