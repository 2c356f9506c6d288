package lower

import (
	"slices"

	"flyball/api"
)

// inspector goes through a code in the order in which Lower makes it. Nothing of it calls itself, so that a code may be of any depth.
type inspector struct {
	api.Code
	within []int // for each statement the innermost loop around it, which is a statement too
	next   int   // the first expression that belongs to no statement so far
	loops  int   // how many there are so far
}

// hasCells reports whether the cells are those of declarations: these are had back from the cells, and lowered again.
func (v *inspector) hasCells() bool {
	if len(v.Cells) > api.MaxCells {
		return false
	}
	p := api.Program{Ticks: v.Ticks}
	for _, cell := range v.Cells {
		if cell.At == 0 {
			p.Decls = append(p.Decls, declOf(cell))
		}
	}
	c, err, _ := Lower(p)
	return err == api.OK && slices.Equal(c.Cells, v.Cells)
}

// declOf returns the declaration that has this first cell.
func declOf(cell api.Cell) api.Decl {
	d := api.Decl{Input: cell.Input, Name: cell.Name, Type: cell.Type, Len: cell.Len}
	switch {
	case d.Input && d.Type == api.TypeInt:
		d.Range = true
		d.Lo, d.Hi = api.Expr{Op: api.OpInt, Int: cell.From}, api.Expr{Op: api.OpInt, Int: cell.To}
	case d.Input && d.Type == api.TypeFloat:
		d.Range = true
		d.Lo, d.Hi = api.Expr{Op: api.OpFloat, Float: cell.Lo}, api.Expr{Op: api.OpFloat, Float: cell.Hi}
	}
	return d
}

// hasBlocks reports whether each statement belongs to just one block, and has the number that it is due there.
func (v *inspector) hasBlocks() bool {
	owners := make([]int, len(v.Ins))
	// From the last statement on, those that no block has so far, the nearest one last: a block has just the nearest ones.
	var free []int
	owns := func(owner int, block []int) bool {
		for _, n := range block {
			last := len(free) - 1
			if last < 0 || free[last] != n {
				return false
			}
			free = free[:last]
			owners[n] = owner
		}
		return true
	}
	for n, x := range slices.Backward(v.Ins) {
		if !owns(n, x.Then) || !owns(n, x.Else) {
			return false
		}
		free = append(free, n)
	}
	if !owns(none, v.Init) || !owns(none, v.Step) || len(free) > 0 {
		return false
	}
	v.enclose(owners)
	return true
}

// enclose notes the loops around the statements, of each of which the owner is known.
func (v *inspector) enclose(owners []int) {
	for n, owner := range owners {
		v.within = append(v.within, owner)
		// An owner is ahead of what it owns.
		if owner != none && v.Ins[owner].Kind != api.StmtFor {
			v.within[n] = v.within[owner]
		}
	}
}

// around returns the numbers of the loops around a statement.
func (v *inspector) around(n int) []int {
	var loops []int
	for n = v.within[n]; n != none; n = v.within[n] {
		loops = append(loops, v.Ins[n].Loop)
	}
	return loops
}

// starts reports whether a statement belongs to Init.
func (v *inspector) starts(n int) bool {
	return len(v.Step) == 0 || n < v.Step[0]
}

// hasStmts reports whether the statements, of which the blocks are known, and their expressions are such as Lower makes.
func (v *inspector) hasStmts() bool {
	for n, x := range v.Ins {
		if !v.hasStmt(n, x) {
			return false
		}
	}
	return v.next == len(v.Exs) && v.loops == v.Loops
}

func (v *inspector) hasStmt(n int, x api.Ins) bool {
	switch x.Kind {
	case api.StmtAssign:
		return v.hasAssign(n, x)
	case api.StmtIf:
		want := bare(x.Kind)
		want.Expr = x.Expr
		return numbers(x) == numbers(want) && v.hasTree(n, x.Expr, api.TypeBool)
	case api.StmtFor:
		return v.hasLoop(n, x)
	}
	return false
}

// numbers returns all of a statement but its kind, its place and its blocks.
func numbers(x api.Ins) [7]int {
	return [...]int{x.Cell, x.Len, x.Index, x.Expr, x.Loop, int(x.Lo), int(x.Hi)}
}

func (v *inspector) hasAssign(n int, x api.Ins) bool {
	if !v.isFirst(x.Cell) || v.Cells[x.Cell].Input || len(x.Then) > 0 || len(x.Else) > 0 {
		return false
	}
	target := v.Cells[x.Cell]
	want := bare(x.Kind)
	want.Cell, want.Len, want.Expr = x.Cell, target.Len, x.Expr
	if target.Len > 0 {
		want.Index = x.Index
	}
	return numbers(x) == numbers(want) &&
		(target.Len == 0 || v.hasTree(n, x.Index, api.TypeInt)) &&
		v.hasTree(n, x.Expr, target.Type)
}

func (v *inspector) hasLoop(n int, x api.Ins) bool {
	want := bare(x.Kind)
	want.Loop, want.Lo, want.Hi = v.loops, x.Lo, x.Hi
	v.loops++
	// The difference of two integers of 32 bits may need 33.
	return numbers(x) == numbers(want) &&
		int64(x.Hi)-int64(x.Lo) < api.MaxLoop &&
		len(v.around(n)) < api.MaxLoops &&
		len(x.Else) == 0
}

// hasTree reports whether the next expressions of a statement are just this one and those within it, and it has this type.
func (v *inspector) hasTree(n, root int, kind api.Type) bool {
	if root >= len(v.Exs) {
		return false
	}
	// Those that are no operands so far: an expression has the last ones.
	var free []int
	for ; v.next <= root; v.next++ {
		x := v.Exs[v.next]
		rest := len(free) - countOperands(x)
		if rest < 0 || !v.hasExpr(n, x, free[rest:]) {
			return false
		}
		free = append(free[:rest], v.next)
	}
	return len(free) == 1 && v.Exs[root].Type == kind
}

// countOperands returns how many operands an expression has, if it is one that Lower makes.
func countOperands(x api.Ex) int {
	switch {
	case x.A == none:
		return 0
	case x.B == none:
		return 1
	}
	return 2
}

// hasExpr reports whether an expression of a statement is one that Lower makes with these operands.
func (v *inspector) hasExpr(n int, x api.Ex, operands []int) bool {
	if x.Op == api.OpName {
		return v.hasName(n, x, operands)
	}
	e := api.Expr{Op: x.Op, Bool: x.Bool, Int: x.Int, Float: x.Float}
	return x.Type != api.TypeNone && x == operation(v.Exs, e, operands)
}

func (v *inspector) hasName(n int, x api.Ex, operands []int) bool {
	if x.Loop != 0 {
		return x == counter(x.Loop-1) && slices.Contains(v.around(n), x.Loop-1)
	}
	if !v.isFirst(x.Cell) || v.Cells[x.Cell].Input && v.starts(n) {
		return false
	}
	cell := v.Cells[x.Cell]
	if cell.Len > 0 && (len(operands) != 1 || v.Exs[operands[0]].Type != api.TypeInt) {
		return false
	}
	if cell.Len == 0 && len(operands) > 0 {
		return false
	}
	return x == of(variable(cell, x.Cell), operands)
}

// isFirst reports whether there is a cell with this number that is a single one, or the first one of an array.
func (v *inspector) isFirst(cell int) bool {
	return 0 <= cell && cell < len(v.Cells) && v.Cells[cell].At == 0
}
