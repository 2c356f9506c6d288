package lower

import (
	"reflect"
	"slices"
	"testing"

	"flyball/api"
	"flyball/check"
	"flyball/tree"
)

// checkLower: Lower returns what the chapter's words say, and no code for a program that is not valid.
func checkLower(t *testing.T, p api.Program) (api.Code, api.Errno) {
	t.Helper()
	c, err, at := Lower(p)
	want, wantAt := check.Check(p)
	if err != want || at != wantAt || err != api.OK && !identical(c, api.Code{}) {
		t.Fatalf("%v at %d, not %v at %d: %+v", err, at, want, wantAt, p)
	}
	if err == api.OK && !identical(c, wantLower(p)) {
		t.Fatalf("%s\n%+v, not\n%+v", tree.Print(p), c, wantLower(p))
	}
	return c, err
}

// TestValid: valid programs have the code that the chapter describes, and it is good.
func TestValid(t *testing.T) {
	s := stream(132)
	ops := map[api.Op]int{}
	for range 3000 {
		c, err := checkLower(t, s.valid(1+s.below(4)))
		if err != api.OK || !checkGood(t, c) {
			t.Fatal(err, c)
		}
		for _, x := range c.Exs {
			ops[x.Op]++
		}
	}
	for op := api.OpBool; op <= api.OpAbs; op++ {
		if ops[op] < 200 {
			t.Error(op, "only", ops[op], "times")
		}
	}
}

// TestChanged: programs with a few changes, most of which make them invalid.
func TestChanged(t *testing.T) {
	s := stream(133)
	found := map[api.Errno]int{}
	for range 5000 {
		p := s.valid(3)
		for range pick(&s, 1, 1, 2) {
			change(&s, &p)
		}
		_, err := checkLower(t, p)
		found[err]++
	}
	for _, err := range []api.Errno{api.OK, api.ErrCheckName, api.ErrCheckTwice, api.ErrCheckType, api.ErrCheckRange, api.ErrCheckWrite, api.ErrCheckIndex} {
		if found[err] < 5 {
			t.Error(err, "only", found[err], "times")
		}
	}
}

// change sets a field within x, or a list, to something else.
func change[T any](s *stream, x *T, numbers ...int) {
	var fields []reflect.Value
	eachField(reflect.ValueOf(x).Elem(), func(v reflect.Value) { fields = append(fields, v) })
	v := pick(s, fields...)
	v.Set(pick(s, others(v, numbers...)...))
}

// TestChangedCodes: codes with a few changes.
func TestChangedCodes(t *testing.T) {
	s := stream(134)
	good := 0
	for range 8000 {
		c, _, _ := Lower(s.valid(3))
		for range pick(&s, 1, 2, 2, 4) {
			change(&s, &c, s.below(len(c.Ins)+1), s.below(len(c.Exs)+1), s.below(len(c.Cells)+1), s.below(4))
		}
		if checkGood(t, c) {
			good++
		}
	}
	if good < 300 {
		t.Error("only", good)
	}
}

// reordered gives statements, and expressions, other numbers; all that refers to them follows.
func reordered(c api.Code, ins, exs []int) api.Code {
	c = copied(c)
	old := copied(c)
	move := func(order []int, n int) int {
		if n < 0 {
			return n
		}
		return order[n]
	}
	blocks := [][]int{c.Init, c.Step}
	for i, x := range old.Ins {
		x.Index, x.Expr = move(exs, x.Index), move(exs, x.Expr)
		blocks = append(blocks, x.Then, x.Else)
		c.Ins[ins[i]] = x
	}
	for i, x := range old.Exs {
		x.A, x.B = move(exs, x.A), move(exs, x.B)
		c.Exs[exs[i]] = x
	}
	for _, l := range blocks {
		for i := range l {
			l[i] = ins[l[i]]
		}
	}
	return c
}

// TestReordered: a code with other numbers than those that are due is not good.
func TestReordered(t *testing.T) {
	s := stream(135)
	count := func(n int) []int {
		var l []int
		for i := range n {
			l = append(l, i)
		}
		return l
	}
	spoilt := 0
	for range 5000 {
		c, _, _ := Lower(s.valid(3))
		ins, exs := count(len(c.Ins)), count(len(c.Exs))
		l := pick(&s, ins, exs)
		if len(l) < 2 {
			continue
		}
		i, j := s.below(len(l)), s.below(len(l))
		l[i], l[j] = l[j], l[i]
		d := reordered(c, ins, exs)
		good := checkGood(t, d)
		if i == j && !good {
			t.Fatal(c)
		}
		if !good {
			spoilt++
		} else if i != j && !sameCode(c, d) {
			t.Fatalf("%+v\n%+v", c, d)
		}
	}
	if spoilt < 2000 {
		t.Error("only", spoilt)
	}
}

// TestSmallBlocks: all codes of two statements without anything else but blocks of up to two.
func TestSmallBlocks(t *testing.T) {
	lists := [][]int{nil, {0}, {1}, {0, 1}, {1, 0}, {1, 1}, {2}, {-1}}
	good := 0
	for i := range 1 << 18 {
		list := func(shift int) []int { return lists[i>>shift&7] }
		c := api.Code{Ticks: 1, Exs: []api.Ex{truth(true), truth(true)}, Init: list(0), Step: list(3)}
		c.Ins = []api.Ins{when(0, 0, list(6), list(9)), when(0, 1, list(12), list(15))}
		if len(c.Init)+len(c.Step)+len(c.Ins[0].Then)+len(c.Ins[0].Else)+len(c.Ins[1].Then)+len(c.Ins[1].Else) > 3 {
			continue // than there are, and one
		}
		if checkGood(t, c) {
			good++
		}
	}
	// Both in Init, both in Step, one in each; or one in the other's Then or Else, in Init or in Step.
	if good != 3+4 {
		t.Error(good)
	}
}

// TestSmallTrees: all codes of a statement and three expressions that are integers.
func TestSmallTrees(t *testing.T) {
	nodes := []api.Ex{number(5), read(api.TypeInt, 0)}
	for a := range 4 {
		nodes = append(nodes, op(api.OpNeg, api.TypeInt, a-1))
		for b := range 4 {
			nodes = append(nodes, op(api.OpAdd, api.TypeInt, a-1, b-1))
		}
	}
	good := 0
	for _, x := range nodes {
		for _, y := range nodes {
			for _, z := range nodes {
				for root := range 5 {
					c := api.Code{Ticks: 1, Cells: []api.Cell{{Name: "n", Type: api.TypeInt}}, Exs: []api.Ex{x, y, z}, Step: []int{0}}
					c.Ins = []api.Ins{assign(0, 0, root-1)}
					if checkGood(t, c) {
						good++
					}
				}
			}
		}
	}
	// Negated twice, or the sum of two; each operand is the literal or the cell.
	if good != 2+2*2 {
		t.Error(good)
	}
}

// TestOnce: every expression is used exactly once, and every statement belongs to exactly one block.
func TestOnce(t *testing.T) {
	s := stream(136)
	for range 1500 {
		c, _, _ := Lower(s.valid(4))
		stmts, exprs := slices.Concat(c.Init, c.Step), []int{}
		for _, x := range c.Ins {
			stmts = slices.Concat(stmts, x.Then, x.Else)
			exprs = append(exprs, x.Index, x.Expr)
		}
		for _, x := range c.Exs {
			exprs = append(exprs, x.A, x.B)
		}
		exprs = slices.DeleteFunc(exprs, func(n int) bool { return n == -1 })
		slices.Sort(stmts)
		slices.Sort(exprs)
		for want, l := range map[int][]int{len(c.Ins): stmts, len(c.Exs): exprs} {
			if len(l) != want {
				t.Fatalf("%v: %+v", l, c)
			}
			for i, n := range l {
				if n != i {
					t.Fatalf("%v: %+v", l, c)
				}
			}
		}
	}
}

// TestMemory: what is returned shares no memory with a program, and no two lists of it do; the program stays as it is.
func TestMemory(t *testing.T) {
	s := stream(137)
	for range 300 {
		p := s.valid(3)
		text := tree.Print(p)
		c, _, _ := Lower(p)
		again, _, _ := Lower(p)
		if !identical(c, again) || tree.Print(p) != text {
			t.Fatalf("%+v, and then %+v", c, again)
		}
		lists := []*[]int{&c.Init, &c.Step}
		for i := range c.Ins {
			lists = append(lists, &c.Ins[i].Then, &c.Ins[i].Else)
		}
		for _, l := range lists {
			full := (*l)[:cap(*l)]
			for i := range full {
				full[i] = -7
			}
			if rest, _, _ := Lower(p); !identical(rest, again) {
				t.Fatal("the program changed")
			}
			for _, other := range lists {
				if other != l && slices.Contains(*other, -7) {
					t.Fatalf("%+v", c)
				}
			}
			clear(full)
		}
	}
}

// TestDeep: as many levels as the document speaks of, and for a code, which has no levels of its own, more.
func TestDeep(t *testing.T) {
	const levels = 1 << 16
	p := api.Program{Ticks: 1, Decls: []api.Decl{{Name: "v", Type: api.TypeInt, Len: 3}}}
	neg := api.Expr{Op: api.OpInt, Int: 5}
	index, sum := neg, neg
	for range levels {
		neg = api.Expr{Op: api.OpNeg, Args: []api.Expr{neg}}
		index = api.Expr{Op: api.OpName, Name: "v", Args: []api.Expr{index}}
		sum = api.Expr{Op: api.OpAdd, Args: []api.Expr{{Op: api.OpInt}, sum}}
	}
	p.Init = []api.Stmt{{Kind: api.StmtAssign, Name: "v", Index: []api.Expr{index}, Expr: neg}}
	p.Step = []api.Stmt{{Kind: api.StmtAssign, Name: "v", Index: []api.Expr{neg}, Expr: sum}}
	for i := range levels {
		x := api.Stmt{Kind: api.StmtIf, Expr: api.Expr{Op: api.OpBool}, Then: p.Step}
		if i%2 == 1 {
			x.Then, x.Else = nil, x.Then
		}
		p.Step = []api.Stmt{x}
	}
	c, err, _ := Lower(p)
	if err != api.OK || len(c.Ins) != levels+2 || len(c.Exs) != 3*(levels+1)+levels+2*levels+1 || !Good(c) {
		t.Error(err, len(c.Ins), len(c.Exs))
	}
	if x := c.Ins[levels+1]; x.Cell != 0 || x.Index != 2*(levels+1)+levels+levels || x.Expr != len(c.Exs)-1 {
		t.Error(x)
	}
	deep := chain(4 * levels)
	if !Good(deep) {
		t.Error("deep")
	}
	deep.Ins[len(deep.Ins)-1].Then = []int{0}
	if Good(deep) {
		t.Error("a circle")
	}
}

// chain is a code of so many conditions within one another, the last one with as many negations.
func chain(levels int) api.Code {
	c := api.Code{Ticks: 1, Step: []int{0}}
	for n := range levels {
		c.Exs = append(c.Exs, truth(true))
		c.Ins = append(c.Ins, when(n, n, []int{n + 1}, nil))
	}
	last := &c.Ins[levels-1]
	last.Then = nil
	for range levels {
		c.Exs = append(c.Exs, op(api.OpNot, api.TypeBool, last.Expr))
		last.Expr++
	}
	return c
}

// TestWide: long lists come to an end, also where they hold the same number again and again.
func TestWide(t *testing.T) {
	const many = 100000
	p := api.Program{Ticks: 1, Decls: []api.Decl{{Name: "n", Type: api.TypeInt}}}
	for range many {
		p.Step = append(p.Step, api.Stmt{Kind: api.StmtAssign, Name: "n", Expr: api.Expr{Op: api.OpName, Name: "n"}})
		p.Step = append(p.Step, api.Stmt{Kind: api.StmtFor, Name: "i", Hi: 15})
	}
	c, err, _ := Lower(p)
	if err != api.OK || len(c.Ins) != 2*many || len(c.Exs) != many || c.Loops != many || c.Ins[2*many-1].Loop != many-1 || !Good(c) {
		t.Error(err, len(c.Ins), len(c.Exs))
	}
	for i := range c.Ins {
		c.Ins[i].Then = c.Step
	}
	if Good(c) {
		t.Error("each within each")
	}
	cells := api.Code{Ticks: 1}
	for range many {
		cells.Cells = append(cells.Cells, api.Cell{Name: "n", Type: api.TypeInt})
	}
	if Good(cells) {
		t.Error("cells")
	}
}
