package ratio

import (
	"slices"
	"testing"

	"flyball/api"
	"flyball/nat"
)

// same compares the parts: a result has only one form.
func same(a, b R) bool {
	return a.Neg == b.Neg && slices.Equal(a.Num, b.Num) && slices.Equal(a.Den, b.Den)
}

func checkSame(t *testing.T, law string, a, b R) {
	t.Helper()
	if !same(a, b) {
		t.Fatalf("%s: %v is not %v", law, a, b)
	}
}

func checkField(t *testing.T, a, b, c R) {
	t.Helper()
	plain := a.Add(Int(0)) // a in lowest terms
	checkSame(t, "a + b", a.Add(b), b.Add(a))
	checkSame(t, "a * b", a.Mul(b), b.Mul(a))
	checkSame(t, "(a + b) + c", a.Add(b).Add(c), a.Add(b.Add(c)))
	checkSame(t, "(a * b) * c", a.Mul(b).Mul(c), a.Mul(b.Mul(c)))
	checkSame(t, "a * (b + c)", a.Mul(b.Add(c)), a.Mul(b).Add(a.Mul(c)))
	checkSame(t, "a * 1", a.Mul(Int(1)), plain)
	checkSame(t, "a * 0", a.Mul(Int(0)), Int(0))
	checkSame(t, "a - a", a.Sub(a), Int(0))
	checkSame(t, "a + (-a)", a.Add(a.Neg1()), Int(0))
	checkSame(t, "(a + b) - b", a.Add(b).Sub(b), plain)
	checkSame(t, "(a - b) + b", a.Sub(b).Add(b), plain)
	if b.Sign() == 0 {
		return
	}
	back, e := a.Mul(b).Div(b)
	checkErr(t, "(a * b) / b", e, api.OK)
	checkSame(t, "(a * b) / b", back, plain)
	quotient, e := a.Div(b)
	checkErr(t, "a / b", e, api.OK)
	checkSame(t, "(a / b) * b", quotient.Mul(b), plain)
}

func checkOrder(t *testing.T, a, b, c R) {
	t.Helper()
	if a.Cmp(a) != 0 || a.Cmp(b) != -b.Cmp(a) {
		t.Fatalf("Cmp of %v and %v", a, b)
	}
	if a.Cmp(b) != a.Sub(b).Sign() {
		t.Fatalf("Cmp of %v and %v is not the sign of their difference", a, b)
	}
	if a.Cmp(b) <= 0 && b.Cmp(c) <= 0 && a.Cmp(c) > 0 {
		t.Fatalf("%v, %v and %v go in a circle", a, b, c)
	}
	if a.Cmp(b) != a.Add(c).Cmp(b.Add(c)) {
		t.Fatalf("the order of %v and %v is not kept when %v is added", a, b, c)
	}
	if a.Mul(c).Cmp(b.Mul(c)) != a.Cmp(b)*c.Sign() {
		t.Fatalf("the order of %v and %v times %v", a, b, c)
	}
	most := Max(a, b, c)
	if most.Cmp(a) < 0 || most.Cmp(b) < 0 || most.Cmp(c) < 0 {
		t.Fatalf("Max(%v, %v, %v) = %v", a, b, c, most)
	}
}

// checkHolds holds for all numbers, in lowest terms or not.
func checkHolds(t *testing.T, a, b, c R) {
	t.Helper()
	checkField(t, a, b, c)
	checkOrder(t, a, b, c)
}

func TestHolds(t *testing.T) {
	for _, a := range edges() {
		for _, b := range edges() {
			checkHolds(t, a, b, small(true, 10, 4))
			checkHolds(t, a, b, a)
		}
	}
	s := stream(5)
	for range 3000 {
		checkHolds(t, s.ratio(3), s.ratio(3), s.ratio(3))
	}
	for range 5 {
		checkHolds(t, s.ratio(20), s.ratio(20), s.ratio(20))
	}
}

// calls has every function that takes numbers, with what it returns.
var calls = []struct {
	name string
	call func(a, b R) []R
}{
	{"New", func(a, b R) []R { x, _ := New(a.Neg, a.Num, b.Den); return []R{x} }},
	{"Add", func(a, b R) []R { return []R{a.Add(b)} }},
	{"Sub", func(a, b R) []R { return []R{a.Sub(b)} }},
	{"Mul", func(a, b R) []R { return []R{a.Mul(b)} }},
	{"Div", func(a, b R) []R { x, _ := a.Div(b); return []R{x} }},
	{"Cmp", func(a, b R) []R { return []R{Int(int64(a.Cmp(b)))} }},
	{"Neg1", func(a, b R) []R { return []R{a.Neg1()} }},
	{"Abs", func(a, b R) []R { return []R{a.Abs()} }},
	{"Sign", func(a, b R) []R { return []R{Int(int64(a.Sign()))} }},
	{"Len", func(a, b R) []R { return []R{Int(int64(a.Len()))} }},
	{"Text", func(a, b R) []R { a.Text(); return nil }},
	{"Max of one", func(a, b R) []R { return []R{Max(a)} }},
	{"Max", func(a, b R) []R { return []R{Max(a, b)} }},
}

// withRoom copies a number, with words behind the ends of its lists that a function which grows them would write over.
func withRoom(a R) (R, []nat.Nat) {
	num, den := append(slices.Clone(a.Num), 11, 22), append(slices.Clone(a.Den), 33, 44)
	return R{Neg: a.Neg, Num: num[:len(a.Num)], Den: den[:len(a.Den)]}, []nat.Nat{num, den}
}

func copies(l []nat.Nat) []nat.Nat {
	var all []nat.Nat
	for _, a := range l {
		all = append(all, slices.Clone(a))
	}
	return all
}

func sameLists(a, b []nat.Nat) bool {
	return slices.EqualFunc(a, b, func(x, y nat.Nat) bool { return slices.Equal(x, y) })
}

// spoil writes over all of a list's memory, that behind its end too, so that whoever shares it shows it.
func spoil(l nat.Nat) {
	l = l[:cap(l)]
	for i := range l {
		l[i] ^= 0x5a5a5a5a
	}
}

func checkMemory(t *testing.T, name string, call func(a, b R) []R, from, with R) {
	t.Helper()
	a, wholeA := withRoom(from)
	b, wholeB := withRoom(with)
	whole := append(wholeA, wholeB...)
	kept := copies(whole)
	results := call(a, b)
	again := call(a, b)
	if !sameLists(whole, kept) {
		t.Fatalf("%s of %v and %v changes an argument", name, from, with)
	}
	for i, r := range results {
		checkSame(t, name+" once more", again[i], r)
		den := slices.Clone(r.Den)
		spoil(r.Num)
		if !slices.Equal(r.Den, den) {
			t.Fatalf("%s of %v and %v: the parts of one number share memory", name, from, with)
		}
		spoil(r.Den)
	}
	if !sameLists(whole, kept) {
		t.Fatalf("%s of %v and %v shares memory with an argument", name, from, with)
	}
	for i, r := range call(a, b) {
		checkSame(t, name+" after all", r, again[i])
	}
}

// TestMemory: arguments stay as they were, nothing is shared, and the same call returns the same.
func TestMemory(t *testing.T) {
	for _, x := range calls {
		for _, a := range edges() {
			for _, b := range edges() {
				checkMemory(t, x.name, x.call, a, b)
			}
		}
	}
}

// TestMemoryOfOneArgument: a number may be given twice, and its parts may be one list.
func TestMemoryOfOneArgument(t *testing.T) {
	for _, x := range calls {
		part := nat.Nat{5, 4, 3, 0}
		a := R{Neg: true, Num: part, Den: part}
		for _, r := range x.call(a, a) {
			num := slices.Clone(r.Num)
			spoil(r.Den)
			if !slices.Equal(r.Num, num) {
				t.Errorf("%s: the parts of one number share memory", x.name)
			}
			spoil(r.Num)
		}
		if !slices.Equal(part, nat.Nat{5, 4, 3, 0}) {
			t.Errorf("%s shares memory with its argument", x.name)
		}
	}
}

// TestMadeMemory: what is made twice from the same is made of two memories.
func TestMadeMemory(t *testing.T) {
	for _, make := range []func() R{
		func() R { return Int(0) },
		func() R { return Int(-1) },
		func() R { return Int(1 << 40) },
		func() R { return Max() },
		func() R { a, _ := Dyad(true, 0, 5); return a },
		func() R { a, _ := Dyad(true, 1, 0); return a },
		func() R { a, _ := Dyad(false, 1, -40); return a },
	} {
		a, b := make(), make()
		kept := R{Neg: b.Neg, Num: slices.Clone(b.Num), Den: slices.Clone(b.Den)}
		spoil(a.Num)
		spoil(a.Den)
		checkSame(t, "made twice", b, kept)
		checkSame(t, "made once more", make(), kept)
	}
}

// TestMaxList: a list that is handed in as it is stays as it was.
func TestMaxList(t *testing.T) {
	l := []R{small(false, 2, 4), small(true, 6, 4), small(false, 9, 6), {}}
	kept := slices.Clone(l)
	most := Max(l...)
	spoil(most.Num)
	spoil(most.Den)
	for i := range l {
		checkSame(t, "Max", l[i], kept[i])
	}
	if l[2].Num[0] != 9 || l[2].Den[0] != 6 {
		t.Error(l[2])
	}
}
