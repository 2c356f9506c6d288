package parse

import (
	"reflect"
	"strings"
	"testing"

	"flyball/api"
	"flyball/tree"
)

// checkProgram: Parse returns this tree, or the zero program and this error.
func checkProgram(t *testing.T, source string, want api.Program, err api.Errno, at int) {
	t.Helper()
	if err != api.OK {
		want = api.Program{}
	}
	p, gotErr, gotAt := Parse(source)
	if gotErr != err || gotAt != at {
		t.Fatalf("%q: %v at %d, not %v at %d", source, gotErr, gotAt, err, at)
	}
	if !reflect.DeepEqual(p, want) {
		t.Fatalf("%q: %v, not %v", source, p, want)
	}
}

// checkExpr: Expr returns this tree, or the zero expression and this error.
func checkExpr(t *testing.T, source string, want api.Expr, err api.Errno, at int) {
	t.Helper()
	if err != api.OK {
		want = api.Expr{}
	}
	e, gotErr, gotAt := Expr(source)
	if gotErr != err || gotAt != at {
		t.Fatalf("%q: %v at %d, not %v at %d", source, gotErr, gotAt, err, at)
	}
	if !reflect.DeepEqual(e, want) {
		t.Fatalf("%q: %v, not %v", source, e, want)
	}
}

// checkRefusal: a source without too much of anything has an error just if the rules refuse a token, and at that one.
func checkRefusal(t *testing.T, source string) {
	t.Helper()
	want, wantAt := refusal("program", source)
	if p, err, at := Parse(source); err != want || at != wantAt || err != api.OK && !reflect.DeepEqual(p, api.Program{}) {
		t.Fatalf("%q: %v at %d, not %v at %d", source, err, at, want, wantAt)
	}
}

func checkExprRefusal(t *testing.T, source string) {
	t.Helper()
	want, wantAt := refusal("source", source)
	if e, err, at := Expr(source); err != want || at != wantAt || err != api.OK && !reflect.DeepEqual(e, api.Expr{}) {
		t.Fatalf("%q: %v at %d, not %v at %d", source, err, at, want, wantAt)
	}
}

// errorOf is what a draft's source comes to: one that is too long is not read at all.
func (d *draft) errorOf() (api.Errno, int) {
	if d.text.Len() > 16384 {
		return api.ErrLexLong, 0
	}
	return d.err, d.at
}

// TestDrafts: sources of all styles have their trees, with all places, or their errors.
func TestDrafts(t *testing.T) {
	s := stream(111)
	found := map[api.Errno]int{}
	for _, st := range []style{ordinary, deepText, deepCode, longText, longCode, longHead} {
		for range 300 {
			d := newDraft(&s, st)
			p := d.program()
			err, at := d.errorOf()
			checkProgram(t, d.text.String(), p, err, at)
			found[err]++

			d = newDraft(&s, st)
			e := d.or()
			err, at = d.errorOf()
			checkExpr(t, d.text.String(), e, err, at)
			found[err]++
		}
	}
	for _, err := range []api.Errno{api.OK, api.ErrParseDeep, api.ErrParseMany} {
		if found[err] < 100 {
			t.Error(err, "only", found[err], "times")
		}
	}
}

// TestErrorsInOrder: of an error of depth or number and a token that is refused, the one that comes first counts.
func TestErrorsInOrder(t *testing.T) {
	s := stream(112)
	for _, st := range []style{deepText, deepCode, longText, longCode, longHead} {
		for range 100 {
			d := newDraft(&s, st)
			d.program()
			source := d.text.String()
			if d.err == api.OK || len(source) > 16000 {
				continue
			}
			for _, token := range []int{d.when - 1, d.when, d.when + 1, 1 + s.below(len(d.ats)-1)} {
				if token == 0 || token == len(d.ats) {
					continue
				}
				at := d.ats[token]
				changed := source[:at] + " ticks " + source[at:]
				err, errAt := d.err, d.at
				if token <= d.when {
					err, errAt = api.ErrParseToken, at+1
				}
				checkProgram(t, changed, api.Program{}, err, errAt)
				cut := source[:at]
				if token <= d.when {
					err, errAt = api.ErrParseToken, at
				}
				checkProgram(t, cut, api.Program{}, err, errAt)
			}
		}
	}
}

// theTokens are one of each.
var theTokens = strings.Fields("ticks input var init step if else for true false int float bool abs in ( ) [ ] { } , ; : = == != < <= > >= + - * / && || ! .. a 5 2.5")

// TestChangedTokens: a program with each of its tokens left out, replaced by each other one, or with each one ahead of it.
func TestChangedTokens(t *testing.T) {
	const program = `ticks 5 ; input a : float in [ - 1 , 2.5 ] ; input b : bool ; var c : int [ 4 ] ; init { } step { if a < b { c [ i ] = - a * ( b + 1 ) ; } else if ! b && true { } else { for i = - 1 .. 3 { x = int ( 1.5 ) ; } } }`
	words := strings.Fields(program)
	for i := range len(words) + 1 {
		before := strings.Join(words[:i], " ") + " "
		checkRefusal(t, before)
		checkRefusal(t, strings.TrimSpace(before))
		behind := strings.Join(words[min(i+1, len(words)):], " ")
		checkRefusal(t, before+behind)
		for _, other := range theTokens {
			checkRefusal(t, before+other+" "+behind)
			checkRefusal(t, before+other+" "+strings.Join(words[i:], " "))
		}
	}
}

// TestShortExpressions: all sequences of so many tokens of each kind.
func TestShortExpressions(t *testing.T) {
	var check func(source string, more int, tokens []string)
	check = func(source string, more int, tokens []string) {
		checkExprRefusal(t, source)
		for i := 0; more > 0 && i < len(tokens); i++ {
			check(source+" "+tokens[i], more-1, tokens)
		}
	}
	check("", 2, theTokens)
	check("", 4, strings.Fields("a 5 true int ( ) [ ] < - && !"))
	check("", 5, strings.Fields("a - ( ) <"))
	check("", 5, strings.Fields("a [ ] abs ("))
	check("", 7, strings.Fields("a == +"))
}

// TestChangedDrafts: sources with some tokens changed.
func TestChangedDrafts(t *testing.T) {
	s := stream(113)
	refused := 0
	for range 3000 {
		d := newDraft(&s, style{tokens: 60, decls: 50, stmts: 60, inner: 40, again: 15, nested: 30})
		d.program()
		source := d.text.String()
		if d.err != api.OK {
			continue
		}
		checkRefusal(t, source)
		for range 4 {
			i := s.below(len(d.ats))
			from, to := d.ats[i], d.ats[i]
			if i+1 < len(d.ats) && s.below(2) == 0 {
				to = d.ats[i+1]
			}
			changed := source[:from] + " " + pick(&s, theTokens...) + " " + source[to:]
			checkRefusal(t, changed)
			if _, err, _ := Parse(changed); err == api.ErrParseToken {
				refused++
			}
		}
	}
	if refused < 5000 {
		t.Error("only", refused, "refused")
	}
}

// TestPrintedAgain: the printed form has the same tree, if it is itself within the limits.
func TestPrintedAgain(t *testing.T) {
	s := stream(114)
	found := map[api.Errno]int{}
	for _, st := range []style{ordinary, deepCode, longText, longCode, longHead} {
		for range 500 {
			d := newDraft(&s, st)
			d.program()
			p, err, _ := Parse(d.text.String())
			if err != api.OK {
				continue
			}
			text := tree.Print(p)
			q, err, _ := Parse(text)
			found[err]++
			if want := printedError(p, text); err != want {
				t.Fatalf("%q: %v, not %v", text, err, want)
			}
			if err == api.OK && !tree.Same(p, q) {
				t.Fatalf("%q is read otherwise", text)
			}
		}
	}
	if found[api.OK] < 500 || found[api.ErrParseDeep] < 20 {
		t.Error(found)
	}
}

// printedError is the error of a program's printed form: it may be longer than the source, and deeper, since it has brackets around each operand that is an operation.
func printedError(p api.Program, text string) api.Errno {
	switch {
	case len(text) > 16384:
		return api.ErrLexLong
	case max(blockDepth(p.Init), blockDepth(p.Step)) > 24:
		return api.ErrParseDeep
	}
	return api.OK
}

func blockDepth(list []api.Stmt) int {
	depth := 0
	for _, s := range list {
		depth = max(depth, exprDepth(s.Expr))
		for _, e := range s.Index {
			depth = max(depth, 1+exprDepth(e))
		}
		if s.Kind != api.StmtAssign {
			depth = max(depth, blockDepth(s.Then))
		}
		if len(s.Else) > 0 {
			depth = max(depth, blockDepth(s.Else))
		}
	}
	return 1 + depth
}

func exprDepth(e api.Expr) int {
	depth := 0
	for _, x := range e.Args {
		inner := exprDepth(x)
		switch {
		case api.OpAdd <= e.Op && e.Op <= api.OpOr && len(x.Args) == 2:
			inner++
		case e.Op == api.OpNeg && len(x.Args) == 2, e.Op == api.OpNot && len(x.Args) == 2:
			inner += 2
		case e.Op < api.OpAdd || e.Op > api.OpOr:
			inner++
		}
		depth = max(depth, inner)
	}
	return depth
}

// TestSameAgain: an answer hangs on the source alone, and its lists are new memory, each of its own.
func TestSameAgain(t *testing.T) {
	s := stream(115)
	for range 300 {
		d := newDraft(&s, ordinary)
		want := d.program()
		source := d.text.String()
		if d.err != api.OK {
			continue
		}
		p, _, _ := Parse(source)
		for range 2 {
			spoil(reflect.ValueOf(&p).Elem())
			checkProgram(t, source, want, api.OK, 0)
		}
	}
}

// spoil changes all that is within each list, and appends to it, which must not be seen in another one.
func spoil(v reflect.Value) {
	switch v.Kind() {
	case reflect.Struct:
		for i := range v.NumField() {
			spoil(v.Field(i))
		}
	case reflect.Slice:
		zero := reflect.Zero(v.Type().Elem())
		reflect.Append(v, zero)
		for i := range v.Len() {
			spoil(v.Index(i))
			v.Index(i).Set(zero)
		}
	}
}

// lists calls visit for each list within a value.
func lists(v reflect.Value, visit func(reflect.Value)) {
	switch v.Kind() {
	case reflect.Struct:
		for i := range v.NumField() {
			lists(v.Field(i), visit)
		}
	case reflect.Slice:
		visit(v)
		for i := range v.Len() {
			lists(v.Index(i), visit)
		}
	}
}

// TestOwnLists: no two lists of one answer share memory, not even behind their ends.
func TestOwnLists(t *testing.T) {
	s := stream(116)
	for range 300 {
		d := newDraft(&s, ordinary)
		d.program()
		p, _, _ := Parse(d.text.String())
		type piece struct {
			from, to uintptr
		}
		var pieces []piece
		lists(reflect.ValueOf(p), func(v reflect.Value) {
			if v.Cap() > 0 {
				from := v.Pointer()
				pieces = append(pieces, piece{from, from + uintptr(v.Cap())*v.Type().Elem().Size()})
			}
		})
		for i, x := range pieces {
			for _, y := range pieces[:i] {
				if x.from < y.to && y.from < x.to {
					t.Fatalf("%q: lists share memory", d.text.String())
				}
			}
		}
	}
}

// TestAnyTokens: sources of any tokens and of any bytes come to an end, with the error that the rules tell.
func TestAnyTokens(t *testing.T) {
	s := stream(117)
	for range 20000 {
		source := ""
		for range s.below(12) {
			source += pick(&s, theTokens...) + " "
		}
		checkRefusal(t, source)
		checkExprRefusal(t, source)
	}
	for range 20000 {
		b := make([]byte, s.below(20))
		for i := range b {
			b[i] = pick(&s, byte(s.below(256)), 'a', '1', '(', ')', '-', ' ')
		}
		checkRefusal(t, string(b))
		checkExprRefusal(t, string(b))
	}
}
