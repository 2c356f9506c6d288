package check

import (
	"reflect"
	"strings"
	"testing"

	"flyball/api"
	"flyball/tree"
)

// checkProgram: Check returns what the chapter's words say.
func checkProgram(t *testing.T, p api.Program) api.Errno {
	t.Helper()
	err, at := Check(p)
	if want, wantAt := wantCheck(p); err != want || at != wantAt {
		t.Fatalf("%v at %d, not %v at %d: %s\n%+v", err, at, want, wantAt, tree.Print(p), p)
	}
	return err
}

func checkType(t *testing.T, p api.Program, e api.Expr) (api.Type, api.Errno) {
	t.Helper()
	kind, err, at := TypeOf(p, e)
	if want, wantErr, wantAt := wantTypeOf(p, e); kind != want || err != wantErr || at != wantAt {
		t.Fatalf("%v, %v at %d, not %v, %v at %d: %s\n%+v\n%+v", kind, err, at, want, wantErr, wantAt, tree.Text(e), e, p.Decls)
	}
	return kind, err
}

var theErrors = []api.Errno{api.OK, api.ErrCheckName, api.ErrCheckTwice, api.ErrCheckType, api.ErrCheckRange, api.ErrCheckWrite, api.ErrCheckIndex}

// TestValid: programs that are made to be valid are.
func TestValid(t *testing.T) {
	s := stream(121)
	for range 3000 {
		p := s.valid()
		if err := checkProgram(t, p); err != api.OK {
			t.Fatalf("%v: %s", err, tree.Print(p))
		}
	}
}

// TestChanged: valid programs with one change, or with some.
func TestChanged(t *testing.T) {
	s := stream(122)
	found := map[api.Errno]int{}
	for range 20000 {
		p := s.valid()
		for range pick(&s, 1, 1, 2, 5) {
			change(&s, &p)
		}
		number(&p)
		found[checkProgram(t, p)]++
	}
	for _, err := range theErrors {
		if found[err] < 100 {
			t.Error(err, "only", found[err], "times")
		}
	}
}

// TestAny: programs of any form.
func TestAny(t *testing.T) {
	s := stream(123)
	found := map[api.Errno]int{}
	for range 20000 {
		found[checkProgram(t, s.any())]++
	}
	for _, err := range theErrors {
		if found[err] < 100 {
			t.Error(err, "only", found[err], "times")
		}
	}
}

// TestAnyTypes: expressions of any form and valid ones, in programs of any form.
func TestAnyTypes(t *testing.T) {
	s := stream(124)
	found := map[api.Errno]int{}
	kinds := map[api.Type]int{}
	for range 40000 {
		p := s.any()
		d := &draft{stream: &s}
		for _, x := range p.Decls {
			if x.Len == 0 || !x.Input && 0 < x.Len && x.Len <= 16 {
				d.decls = append(d.decls, x)
			}
		}
		e := d.expr(pick(&s, api.TypeBool, api.TypeInt, api.TypeFloat), 4)
		for s.below(3) == 0 {
			change(&s, &e)
		}
		if s.below(4) == 0 {
			e = s.anyExpr(3)
		}
		number(&e)
		kind, err := checkType(t, p, e)
		found[err]++
		kinds[kind]++
	}
	for _, err := range theErrors {
		if found[err] < 300 && err != api.ErrCheckTwice && err != api.ErrCheckWrite {
			t.Error(err, "only", found[err], "times")
		}
	}
	if found[api.ErrCheckTwice]+found[api.ErrCheckWrite] > 0 || min(kinds[api.TypeBool], kinds[api.TypeInt], kinds[api.TypeFloat]) < 1000 {
		t.Error(found, kinds)
	}
}

// moved is a copy with other places, and with lists without elements that are nil or not.
func moved[T any](s *stream, x T) T {
	var fill func(to, from reflect.Value)
	fill = func(to, from reflect.Value) {
		switch {
		case from.Kind() == reflect.Struct:
			for i := range from.NumField() {
				fill(to.Field(i), from.Field(i))
				if from.Type().Field(i).Name == "At" {
					to.Field(i).SetInt(int64(s.below(100) - 50))
				}
			}
		case from.Kind() != reflect.Slice:
			to.Set(from)
		case from.Len() > 0 || s.flip():
			to.Set(reflect.MakeSlice(from.Type(), from.Len(), from.Len()))
			for i := range from.Len() {
				fill(to.Index(i), from.Index(i))
			}
		}
	}
	v := reflect.New(reflect.TypeOf(x)).Elem()
	fill(v, reflect.ValueOf(x))
	return v.Interface().(T)
}

// TestMoved: whether a program is valid, its error, and a type hang on no place; the place of an error is one that the program gives.
func TestMoved(t *testing.T) {
	s := stream(125)
	for range 6000 {
		p := s.valid()
		if s.flip() {
			change(&s, &p)
		}
		err, _ := Check(p)
		q := moved(&s, p)
		if other := checkProgram(t, q); other != err {
			t.Fatalf("%v, and then %v: %s", err, other, tree.Print(p))
		}
		e := s.anyExpr(3)
		kind, err, _ := TypeOf(p, e)
		if otherKind, other := checkType(t, q, moved(&s, e)); otherKind != kind || other != err {
			t.Fatalf("%v and %v, and then %v and %v: %s", kind, err, otherKind, other, tree.Text(e))
		}
	}
}

// TestOneType: an expression that has a type can be assigned to a variable of this type, and to no other.
func TestOneType(t *testing.T) {
	s := stream(126)
	for range 3000 {
		p := s.valid()
		d := &draft{stream: &s, decls: p.Decls}
		e := d.expr(pick(&s, api.TypeBool, api.TypeInt, api.TypeFloat), 5)
		e.At = -7
		kind, err := checkType(t, p, e)
		if err != api.OK {
			t.Fatalf("%v: %s", err, tree.Text(e))
		}
		for other := api.TypeBool; other <= api.TypeFloat; other++ {
			q := api.Program{Ticks: 1, Decls: []api.Decl{{Name: "target", Type: other}}}
			for _, x := range p.Decls {
				x.Len = min(x.Len, 1) // so that there is room for one more
				q.Decls = append(q.Decls, x)
			}
			q.Step = []api.Stmt{{Kind: api.StmtAssign, Name: "target", Expr: e}}
			err, at := Check(q)
			if other == kind && (err != api.OK || at != 0) || other != kind && (err != api.ErrCheckType || at != -7) {
				t.Fatalf("%v at %d: %s of type %d to one of type %d", err, at, tree.Text(e), kind, other)
			}
		}
	}
}

// TestSameAgain: an answer hangs on the arguments alone, which stay as they are.
func TestSameAgain(t *testing.T) {
	s := stream(127)
	for range 3000 {
		p := s.any()
		if s.flip() {
			p = s.valid()
		}
		e := s.anyExpr(4)
		keptP, keptE := moved(&s, p), moved(&s, e)
		err, at := Check(p)
		kind, typeErr, typeAt := TypeOf(p, e)
		for range 2 {
			again, againAt := Check(p)
			kindAgain, typeErrAgain, typeAtAgain := TypeOf(p, e)
			if again != err || againAt != at || kindAgain != kind || typeErrAgain != typeErr || typeAtAgain != typeAt {
				t.Fatalf("%v at %d, and then %v at %d: %s", err, at, again, againAt, tree.Print(p))
			}
		}
		if !tree.Same(p, keptP) || !tree.SameExpr(e, keptE) {
			t.Fatalf("changed: %s", tree.Print(p))
		}
	}
}

// TestDeep: trees as deep as the document speaks of come to an end.
func TestDeep(t *testing.T) {
	const levels = 1 << 16
	neg := api.Expr{Op: api.OpInt, At: 5}
	index := neg
	sum := neg
	for range levels {
		neg = api.Expr{Op: api.OpNeg, Args: []api.Expr{neg}}
		sum = api.Expr{Op: api.OpAdd, Args: []api.Expr{{Op: api.OpInt}, sum}}
		index = api.Expr{Op: api.OpName, Name: "v", Args: []api.Expr{index}}
	}
	p := api.Program{Ticks: 1, Decls: []api.Decl{{Name: "v", Type: api.TypeInt, Len: 3}}}
	for _, e := range []api.Expr{neg, sum, index} {
		if kind, err, at := TypeOf(p, e); kind != api.TypeInt || err != api.OK || at != 0 {
			t.Error(kind, err, at)
		}
	}
	for depth := range 3 {
		body := []api.Stmt{{Kind: api.StmtAssign, Name: "v", Index: []api.Expr{index}, Expr: neg}}
		for range levels {
			body = []api.Stmt{{Kind: api.StmtIf, Expr: api.Expr{Op: api.OpBool}, Then: body}}
			if depth == 1 {
				body[0].Then, body[0].Else = nil, body[0].Then
			}
		}
		if depth == 2 {
			body = append(body, api.Stmt{At: 9})
		}
		p.Step = body
		if err, at := Check(p); depth < 2 && err != api.OK || depth == 2 && (err != api.ErrCheckType || at != 9) {
			t.Error(depth, err, at)
		}
		p.Init, p.Step = p.Step, nil
		if err, at := Check(p); depth < 2 && err != api.OK || depth == 2 && (err != api.ErrCheckType || at != 9) {
			t.Error(depth, err, at)
		}
		p.Init = nil
	}
	loops := []api.Stmt{}
	for range levels {
		loops = []api.Stmt{{Kind: api.StmtFor, Name: "i", Then: loops}}
	}
	p.Step = loops
	if err, _ := Check(p); err != api.ErrCheckTwice {
		t.Error(err)
	}
}

// TestWide: long lists and names come to an end.
func TestWide(t *testing.T) {
	const many = 100000
	p := api.Program{Ticks: 1, Decls: []api.Decl{{Name: "n", Type: api.TypeInt}}}
	for range many {
		p.Step = append(p.Step, api.Stmt{Kind: api.StmtAssign, Name: "n", Expr: api.Expr{Op: api.OpName, Name: "n"}})
		p.Step = append(p.Step, api.Stmt{Kind: api.StmtFor, Name: "i", Hi: 15})
	}
	if err, at := Check(p); err != api.OK || at != 0 {
		t.Error(err, at)
	}
	p.Step[2*many-1].Kind, p.Step[2*many-1].At = api.StmtNone, 77
	if err, at := Check(p); err != api.ErrCheckType || at != 77 {
		t.Error(err, at)
	}
	wide := api.Expr{Op: api.OpAdd, At: 4, Args: make([]api.Expr, many)}
	for i := range wide.Args {
		wide.Args[i] = api.Expr{Op: api.OpInt, At: 100 + i}
	}
	if kind, err, at := TypeOf(p, wide); kind != api.TypeNone || err != api.ErrCheckType || at != 4 {
		t.Error(kind, err, at)
	}
	wide.Args[many-1].Op = api.OpNone
	if kind, err, at := TypeOf(p, wide); kind != api.TypeNone || err != api.ErrCheckType || at != 99+many {
		t.Error(kind, err, at)
	}
	long := strings.Repeat("n", many)
	if _, err, at := TypeOf(p, api.Expr{Op: api.OpName, At: 3, Name: long}); err != api.ErrCheckName || at != 3 {
		t.Error(err, at)
	}
	q := api.Program{Ticks: 1}
	for i := range many {
		q.Decls = append(q.Decls, api.Decl{Name: strings.Repeat("n", i%20+1) + strings.Repeat("m", i/20%13), Type: api.TypeInt, At: i})
	}
	if err, at := Check(q); err != api.ErrCheckRange || at != 96 {
		t.Error(err, at)
	}
	if kind, err, at := TypeOf(q, api.Expr{Op: api.OpName, Name: "nnm"}); kind != api.TypeInt || err != api.OK || at != 0 {
		t.Error(kind, err, at)
	}
}
