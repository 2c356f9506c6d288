package tree

import (
	"go/ast"
	"go/parser"
	"reflect"
	"strconv"
	"strings"
	"testing"

	"flyball/api"
	"flyball/lex"
)

func TestTexts(t *testing.T) {
	s := stream(101)
	for range 20000 {
		e := s.expr(1 + s.below(5))
		if text, want := Text(e), wantText(e); text != want {
			t.Fatalf("%q, not %q", text, want)
		}
	}
}

func TestPrograms(t *testing.T) {
	s := stream(102)
	for range 2000 {
		p := s.program()
		if text, want := Print(p), wantPrint(p); text != want {
			t.Fatalf("%q, not %q", text, want)
		}
		n, m := Count(p)
		if stmts, exprs := wantCount(p); n != stmts || m != exprs {
			t.Fatalf("%d and %d, not %d and %d: %q", n, m, stmts, exprs, Print(p))
		}
	}
}

// proper is an expression that a source can have, of so many levels at most.
func (s *stream) proper(levels int) api.Expr {
	if levels > 1 && s.below(5) > 0 {
		a, b := s.proper(levels-1), s.proper(levels-1)
		switch o := api.OpAdd + api.Op(s.below(18)); {
		case o <= api.OpOr:
			return op(o, a, b)
		case o <= api.OpAbs:
			return op(o, a)
		}
		return name(pick(s, "v", "w2"), a)
	}
	return pick(s, name("a"), name("_b"), integer(0), integer(12), boolean(true), boolean(false), float(0), float(0.1), float(1e300), float(5e-324), float(1e20))
}

// TestReadBack: of the text, another parser reads the same tree, so the brackets suffice.
func TestReadBack(t *testing.T) {
	s := stream(103)
	for range 20000 {
		e := s.proper(1 + s.below(6))
		text := Text(e)
		spaced := text
		for strings.Contains(spaced, "--") { // which is a sign of its own for that parser
			spaced = strings.ReplaceAll(spaced, "--", "- -")
		}
		got, err := parser.ParseExpr(spaced)
		if err != nil {
			t.Fatalf("%q: %v", text, err)
		}
		if !SameExpr(fromGo(t, got), e) {
			t.Fatalf("%q is read otherwise", text)
		}
		if _, no, at := lex.Lex(text); no != api.OK {
			t.Fatalf("%q: %v at %d", text, no, at)
		}
	}
}

func fromGo(t *testing.T, x ast.Expr) api.Expr {
	t.Helper()
	switch x := x.(type) {
	case *ast.ParenExpr:
		return fromGo(t, x.X)
	case *ast.BinaryExpr:
		for o, sign := range theSigns {
			if sign == x.Op.String() {
				return op(o, fromGo(t, x.X), fromGo(t, x.Y))
			}
		}
	case *ast.UnaryExpr:
		return op(map[string]api.Op{"-": api.OpNeg, "!": api.OpNot}[x.Op.String()], fromGo(t, x.X))
	case *ast.CallExpr:
		return op(map[string]api.Op{"int": api.OpToInt, "float": api.OpToFloat, "abs": api.OpAbs}[x.Fun.(*ast.Ident).Name], fromGo(t, x.Args[0]))
	case *ast.IndexExpr:
		return name(x.X.(*ast.Ident).Name, fromGo(t, x.Index))
	case *ast.Ident:
		if x.Name == "true" || x.Name == "false" {
			return boolean(x.Name == "true")
		}
		return name(x.Name)
	case *ast.BasicLit:
		if n, err := strconv.ParseInt(x.Value, 10, 32); err == nil {
			return integer(int32(n))
		}
		f, err := strconv.ParseFloat(x.Value, 64)
		if err != nil {
			t.Fatal(err)
		}
		return float(f)
	}
	t.Fatalf("%T", x)
	return api.Expr{}
}

// TestLines: each line begins with as many bytes 9 as blocks are open there, and ends with a byte 10.
func TestLines(t *testing.T) {
	s := stream(104)
	for range 500 {
		p := s.program()
		p.Decls = nil
		text := strings.ReplaceAll(Print(p), "a\n", "a")
		depth := 0
		lines := strings.SplitAfter(text, "\n")
		if last := lines[len(lines)-1]; last != "" {
			t.Fatalf("%q ends with %q", text, last)
		}
		for _, line := range lines[:len(lines)-1] {
			rest := strings.TrimLeft(line, "\t")
			if strings.HasPrefix(rest, "}") {
				depth--
			}
			if len(line)-len(rest) != depth {
				t.Fatalf("%q at depth %d", line, depth)
			}
			if strings.HasSuffix(rest, "{\n") {
				depth++
			}
		}
		if depth != 0 {
			t.Fatalf("%q", text)
		}
	}
}

// TestMoved: what differs only in places, or in nil and empty lists, is the same, has the same text and the same counts.
func TestMoved(t *testing.T) {
	s := stream(105)
	for range 2000 {
		p := s.program()
		q := moved(&s, p)
		if !Same(p, p) || !Same(p, q) || !Same(q, p) || !Same(moved(&s, q), p) {
			t.Fatalf("not the same: %q", Print(p))
		}
		n, m := Count(p)
		if stmts, exprs := Count(q); Print(p) != Print(q) || n != stmts || m != exprs {
			t.Fatalf("%q, but %q", Print(p), Print(q))
		}
		e := s.expr(4)
		if f := moved(&s, e); !SameExpr(e, e) || !SameExpr(e, f) || !SameExpr(f, e) || Text(e) != Text(f) {
			t.Fatalf("%q, but %q", Text(e), Text(f))
		}
	}
}

// eachChange changes v at one place after the other, calls check with the place's name, and sets it back.
func eachChange(v reflect.Value, place string, check func(place string)) {
	old := reflect.New(v.Type()).Elem()
	old.Set(v)
	switch v.Kind() {
	case reflect.Struct:
		for i := range v.NumField() {
			eachChange(v.Field(i), place+"."+v.Type().Field(i).Name, check)
		}
		return
	case reflect.Slice:
		for i := range v.Len() {
			eachChange(v.Index(i), place+"[]", check)
		}
		v.Set(reflect.Append(reflect.AppendSlice(reflect.Zero(v.Type()), v), reflect.Zero(v.Type().Elem())))
		check(place + " longer")
		if old.Len() > 0 {
			v.Set(old.Slice(1, old.Len()))
			check(place + " without the first")
		}
	case reflect.Bool:
		v.SetBool(!v.Bool())
		check(place)
	case reflect.String:
		v.SetString(v.String() + "x")
		check(place)
	case reflect.Int, reflect.Int32:
		v.SetInt(v.Int() ^ 1)
		check(place)
		v.SetInt(old.Int() ^ 1<<30)
		check(place)
	default:
		v.SetUint(v.Uint() ^ 1)
		check(place)
		v.SetUint(old.Uint() ^ 1<<(v.Type().Bits()-1))
		check(place)
	}
	v.Set(old)
}

// TestChanges: what differs in any one field is not the same, unless it is an At.
func TestChanges(t *testing.T) {
	s := stream(106)
	for range 60 {
		p := s.program()
		q := moved(&s, p)
		eachChange(reflect.ValueOf(&q).Elem(), "", func(place string) {
			at := strings.HasSuffix(place, ".At")
			if Same(p, q) != at || Same(q, p) != at {
				t.Fatal(place)
			}
		})
		if !Same(p, q) {
			t.Fatal("not set back")
		}
	}
	for range 300 {
		e := s.expr(4)
		f := moved(&s, e)
		eachChange(reflect.ValueOf(&f).Elem(), "", func(place string) {
			at := strings.HasSuffix(place, ".At")
			if SameExpr(e, f) != at || SameExpr(f, e) != at {
				t.Fatal(place)
			}
		})
	}
}

// TestPairs: two of many small trees are the same just if nothing differs but what does not count; then they have one text.
func TestPairs(t *testing.T) {
	s := stream(107)
	var exprs []api.Expr
	for range 400 {
		exprs = append(exprs, s.small(2))
	}
	equal := 0
	for _, a := range exprs {
		for _, b := range exprs {
			same := SameExpr(a, b)
			if same != wantSame(a, b) || same && Text(a) != Text(b) {
				t.Fatalf("%v and %v: %v", a, b, same)
			}
			if same {
				equal++
			}
		}
	}
	if equal < 1000 {
		t.Fatal("only", equal, "pairs")
	}
	var programs []api.Program
	for range 120 {
		programs = append(programs, s.smallProgram())
	}
	checkRelation(t, exprs[:120], SameExpr)
	checkRelation(t, programs, Same)
	for _, p := range programs {
		for _, q := range programs {
			if same := Same(p, q); same != wantSame(p, q) || same && Print(p) != Print(q) {
				t.Fatalf("%q and %q: %v", Print(p), Print(q), same)
			}
		}
	}
}

func (s *stream) smallProgram() api.Program {
	list := func() []api.Stmt {
		l := []api.Stmt{{Kind: pick(s, api.StmtNone, api.StmtAssign), At: s.below(9), Expr: s.small(1)}}
		return l[:s.below(2)]
	}
	return api.Program{Ticks: s.below(2), Init: list(), Step: list()}
}

// checkRelation: a relation is reflexive, symmetric and transitive on the list.
func checkRelation[T any](t *testing.T, l []T, same func(T, T) bool) {
	t.Helper()
	equal := 0
	for i, a := range l {
		if !same(a, a) {
			t.Fatalf("not reflexive: %v", a)
		}
		for j, b := range l {
			ab := same(a, b)
			if ab != same(b, a) {
				t.Fatalf("not symmetric: %v, %v", a, b)
			}
			if !ab || i == j {
				continue
			}
			equal++
			for _, c := range l {
				if same(b, c) != same(a, c) {
					t.Fatalf("not transitive: %v, %v, %v", a, b, c)
				}
			}
		}
	}
	if equal < 100 {
		t.Fatal("only", equal, "pairs")
	}
}

// TestUnchanged: no function changes its arguments; the same call returns the same result.
func TestUnchanged(t *testing.T) {
	s := stream(108)
	for range 500 {
		p := s.program()
		kept := copyOf(p, func() int { return 0 }, func() bool { return true })
		first := Print(p)
		n, m := Count(p)
		Same(p, kept)
		e := s.expr(4)
		again := moved(&s, e)
		text := Text(e)
		if !reflect.DeepEqual(copyOf(p, func() int { return 0 }, func() bool { return true }), kept) || !wantSame(e, again) {
			t.Fatal("changed")
		}
		if stmts, exprs := Count(p); Print(p) != first || stmts != n || exprs != m || Text(e) != text {
			t.Fatalf("%q, and then %q", first, Print(p))
		}
	}
}

// TestDeep: trees as deep as the document speaks of come to an end.
func TestDeep(t *testing.T) {
	const levels = 1 << 16
	s := stream(109)
	neg, sum, index := name("a"), name("a"), name("a")
	for range levels {
		neg = op(api.OpNeg, neg)
		sum = op(api.OpAdd, name("a"), sum)
		index = name("a", index)
	}
	checkText(t, neg, strings.Repeat("-", levels)+"a")
	checkText(t, sum, strings.Repeat("a + (", levels-1)+"a + a"+strings.Repeat(")", levels-1))
	checkText(t, index, strings.Repeat("a[", levels)+"a"+strings.Repeat("]", levels))
	body := assign("x", sum)
	for range levels {
		body = choice(name("b"), []api.Stmt{body}, nil)
	}
	p := api.Program{Step: []api.Stmt{body}}
	checkCount(t, p, levels+1, 3*levels+1)
	if !Same(p, moved(&s, p)) || !SameExpr(neg, op(api.OpNeg, neg.Args[0])) || SameExpr(neg, neg.Args[0]) {
		t.Error("Same")
	}
	// Each block adds a byte to each line within it, so fewer of them make a long text.
	body = assign("x", name("y"))
	lines := strings.Repeat("\t", 301) + "x = y;\n"
	for depth := 300; depth > 0; depth-- {
		tabs := strings.Repeat("\t", depth)
		body = loop("i", 0, 1, body)
		lines = tabs + "for i = 0 .. 1 {\n" + lines + tabs + "}\n"
	}
	checkStep(t, lines, body)
}

// TestWide: long lists come to an end.
func TestWide(t *testing.T) {
	const many = 50000
	s := stream(110)
	list := make([]api.Stmt, many)
	for i := range list {
		list[i] = assign("x", integer(int32(i%10)))
	}
	p := api.Program{Step: list}
	if text := Print(p); len(text) != many*len("\tx = 1;\n")+len("ticks 0;\ninit {\n}\nstep {\n}\n") || !strings.HasSuffix(text, "\tx = 8;\n\tx = 9;\n}\n") {
		t.Error(len(text))
	}
	checkCount(t, p, many, many)
	q := moved(&s, p)
	if !Same(p, q) {
		t.Error("not the same")
	}
	q.Step[many-1].Hi++
	if Same(p, q) {
		t.Error("the same")
	}
}
