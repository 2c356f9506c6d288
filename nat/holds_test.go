package nat

import (
	"slices"
	"testing"

	"flyball/api"
)

func checkSame(t *testing.T, law string, a, b Nat) {
	t.Helper()
	if !slices.Equal(a, b) {
		t.Fatalf("%s: %v is not %v", law, a, b)
	}
}

func checkLaws(t *testing.T, a, b, c Nat) {
	t.Helper()
	checkSame(t, "a + b", a.Add(b), b.Add(a))
	checkSame(t, "a * b", a.Mul(b), b.Mul(a))
	checkSame(t, "(a + b) + c", a.Add(b).Add(c), a.Add(b.Add(c)))
	checkSame(t, "(a * b) * c", a.Mul(b).Mul(c), a.Mul(b.Mul(c)))
	checkSame(t, "a * (b + c)", a.Mul(b.Add(c)), a.Mul(b).Add(a.Mul(c)))
	checkSame(t, "a * 1", a.Mul(New(1)), a.Add(nil))
	if back, ok := a.Add(b).Sub(b); !ok || back.Cmp(a) != 0 {
		t.Fatalf("(%v + %v) - b = %v, %t", a, b, back, ok)
	}
	q, r, e := a.Div(b)
	if b.Cmp(nil) == 0 {
		checkErr(t, "a / 0", e, api.ErrNatZero)
		return
	}
	checkErr(t, "a / b", e, api.OK)
	if back := q.Mul(b).Add(r); back.Cmp(a) != 0 || r.Cmp(b) >= 0 {
		t.Fatalf("%v / %v = %v, %v", a, b, q, r)
	}
}

func TestLaws(t *testing.T) {
	some := append(lists(1), lists(2)...)
	for _, a := range some {
		for _, b := range some {
			checkLaws(t, a, b, Nat{top, 1})
			checkLaws(t, a, b, a)
		}
	}
	s := stream(7)
	for range 20000 {
		checkLaws(t, s.nat(9), s.nat(6), s.nat(9))
	}
	for range 20 {
		checkLaws(t, s.nat(300), s.nat(200), s.nat(300))
	}
}

// calls has every function that takes numbers, with the lists that it returns.
var calls = []struct {
	name string
	call func(a, b Nat) []Nat
}{
	{"Add", func(a, b Nat) []Nat { return []Nat{a.Add(b)} }},
	{"Sub", func(a, b Nat) []Nat { d, _ := a.Sub(b); return []Nat{d} }},
	{"Mul", func(a, b Nat) []Nat { return []Nat{a.Mul(b)} }},
	{"Div", func(a, b Nat) []Nat { q, r, _ := a.Div(b); return []Nat{q, r} }},
	{"Cmp", func(a, b Nat) []Nat { a.Cmp(b); return nil }},
	{"Len", func(a, b Nat) []Nat { a.Len(); return nil }},
	{"Bit", func(a, b Nat) []Nat { a.Bit(40); return nil }},
	{"Shl(-1)", func(a, b Nat) []Nat { s, _ := a.Shl(-1); return []Nat{s} }},
	{"Shl(0)", func(a, b Nat) []Nat { s, _ := a.Shl(0); return []Nat{s} }},
	{"Shl(5)", func(a, b Nat) []Nat { s, _ := a.Shl(5); return []Nat{s} }},
	{"Shl(64)", func(a, b Nat) []Nat { s, _ := a.Shl(64); return []Nat{s} }},
	{"Shr(-1)", func(a, b Nat) []Nat { return []Nat{a.Shr(-1)} }},
	{"Shr(0)", func(a, b Nat) []Nat { return []Nat{a.Shr(0)} }},
	{"Shr(5)", func(a, b Nat) []Nat { return []Nat{a.Shr(5)} }},
	{"Shr(32)", func(a, b Nat) []Nat { return []Nat{a.Shr(32)} }},
	{"Uint", func(a, b Nat) []Nat { a.Uint(); return nil }},
	{"Gcd", func(a, b Nat) []Nat { return []Nat{a.Gcd(b)} }},
	{"Text", func(a, b Nat) []Nat { a.Text(); return nil }},
}

// spoil writes over all of a list's memory, that behind its end too, so that whoever shares it shows it.
func spoil(l Nat) {
	l = l[:cap(l)]
	for i := range l {
		l[i] ^= 0x5a5a5a5a
	}
}

// withRoom has words behind its end that a function which grows its argument would write over.
func withRoom(a Nat) (Nat, Nat) {
	whole := append(slices.Clone(a), 11, 22, 33)
	return whole[:len(a)], whole
}

func checkMemory(t *testing.T, name string, call func(a, b Nat) []Nat, from, with Nat) {
	t.Helper()
	a, wholeA := withRoom(from)
	b, wholeB := withRoom(with)
	keptA, keptB := slices.Clone(wholeA), slices.Clone(wholeB)
	results := call(a, b)
	if !slices.Equal(wholeA, keptA) || !slices.Equal(wholeB, keptB) {
		t.Fatalf("%s of %v and %v changes an argument", name, from, with)
	}
	var kept []Nat
	for _, r := range results {
		kept = append(kept, slices.Clone(r))
	}
	for i, r := range call(a, b) {
		checkSame(t, name+" once more", r, kept[i])
	}
	for i, r := range results {
		spoil(r)
		for j := i + 1; j < len(results); j++ {
			checkSame(t, name+": lists of one answer", results[j], kept[j])
		}
	}
	if !slices.Equal(wholeA, keptA) || !slices.Equal(wholeB, keptB) {
		t.Fatalf("%s of %v and %v shares memory with an argument", name, from, with)
	}
}

// TestMemory: arguments stay as they were, nothing is shared, and the same call returns the same.
func TestMemory(t *testing.T) {
	some := []Nat{nil, {}, {0}, {0, 0}, {1}, {1, 0}, {6}, {top}, {0, 1}, {8, 0, 0, 0}, {top, top}, {0, 0, 1}, {5, 4, 3, 2, 1}, {5, 4, 3, 2, 1, 0, 0}, {top, top, top, top, top, top, top}, {0, 0, 0, 0, 12}}
	for _, x := range calls {
		for _, a := range some {
			for _, b := range some {
				checkMemory(t, x.name, x.call, a, b)
			}
		}
	}
}

// TestMemoryOfOneArgument: a number may be given twice.
func TestMemoryOfOneArgument(t *testing.T) {
	for _, x := range calls {
		a := Nat{5, 4, 3, 2, 1, 0}
		kept := slices.Clone(a)
		for _, r := range x.call(a, a) {
			spoil(r)
		}
		checkSame(t, x.name, a, kept)
	}
}

// TestNewMemory: what is made twice from the same is made of two memories.
func TestNewMemory(t *testing.T) {
	for _, make := range []func() Nat{
		func() Nat { return New(1) },
		func() Nat { return New(1 << 40) },
		func() Nat { a, _ := Pow(3, 0); return a },
		func() Nat { a, _ := Pow(3, 1); return a },
		func() Nat { a, _ := Pow(3, 100); return a },
		func() Nat { a, _ := Parse("1"); return a },
		func() Nat { a, _ := Parse("12345678901234567890"); return a },
	} {
		a, b := make(), make()
		kept := slices.Clone(b)
		spoil(a)
		checkSame(t, "made twice", b, kept)
		checkSame(t, "made once more", make(), kept)
	}
}

// TestZeroWords: with zero words at the end of its arguments, a function returns what it returns without them.
func TestZeroWords(t *testing.T) {
	some := []Nat{nil, {1}, {6}, {top}, {0, 1}, {top, top}, {0, 0, 1}, {5, 4, 3, 2, 1}, {0, 0, 0, 0, 12}}
	for _, x := range calls {
		for _, a := range some {
			for _, b := range some {
				want := x.call(a, b)
				got := x.call(append(slices.Clone(a), 0, 0), append(slices.Clone(b), 0))
				for i := range want {
					checkSame(t, x.name, got[i], want[i])
				}
			}
		}
	}
	for _, a := range some {
		long := append(slices.Clone(a), 0, 0, 0)
		x, ok := a.Uint()
		y, okLong := long.Uint()
		if a.Cmp(long) != 0 || long.Cmp(a) != 0 || long.Len() != a.Len() || long.Text() != a.Text() || y != x || okLong != ok || long.Bit(33) != a.Bit(33) {
			t.Errorf("%v and %v are told differently", a, long)
		}
	}
}
