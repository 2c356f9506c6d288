package wide

import (
	"math"
	"math/big"
	"math/bits"
	"slices"
	"testing"
)

const top = math.MaxUint64

// The greatest numbers, from which carries and borrows run through all words.
var (
	top128 = U128{top, top}
	top192 = U192{top, top, top}
)

// edgeWords make the numbers that the checks against math/big are done with.
var edgeWords = []uint64{0, 1, 2, 1 << 32, 1<<63 - 1, 1 << 63, 1<<63 + 1, top - 1, top}

// edgeShifts has every n around a word's end, and those that no number of bits reaches.
var edgeShifts = []int{math.MinInt, -192, -64, -1, 0, 1, 2, 31, 62, 63, 64, 65, 100, 126, 127, 128, 129, 190, 191, 192, 193, 255, 256, 1 << 32, 1 << 62, math.MaxInt}

func all128() []U128 {
	var l []U128
	for _, hi := range edgeWords {
		for _, lo := range edgeWords {
			l = append(l, U128{hi, lo})
		}
	}
	return l
}

func all192() []U192 {
	var l []U192
	for _, hi := range edgeWords {
		for _, a := range all128() {
			l = append(l, U192{hi, a.Hi, a.Lo})
		}
	}
	return l
}

// stream makes words of every length from a fixed start, so that a failure can be had again.
type stream uint64

func (s *stream) word() uint64 {
	x := uint64(*s)
	x ^= x << 13
	x ^= x >> 7
	x ^= x << 17
	*s = stream(x)
	mixed := x * 0x9e3779b97f4a7c15
	return mixed >> (x >> 58)
}

func (s *stream) u128() U128 { return U128{s.word(), s.word()} }

func (s *stream) u192() U192 { return U192{s.word(), s.word(), s.word()} }

func join(words ...uint64) *big.Int {
	x := new(big.Int)
	for _, w := range words {
		x.Lsh(x, 64)
		x.Or(x, new(big.Int).SetUint64(w))
	}
	return x
}

func word(x *big.Int, i uint) uint64 {
	y := new(big.Int).Rsh(x, 64*i)
	return y.And(y, join(top)).Uint64()
}

func (a U128) big() *big.Int { return join(a.Hi, a.Lo) }

func (a U192) big() *big.Int { return join(a.Hi, a.Mid, a.Lo) }

// cut128 and cut192 take a number modulo 2^128 and 2^192.
func cut128(x *big.Int) U128 { return U128{word(x, 1), word(x, 0)} }

func cut192(x *big.Int) U192 { return U192{word(x, 2), word(x, 1), word(x, 0)} }

func outside(x *big.Int, size int) uint64 {
	if x.Sign() < 0 || x.BitLen() > size {
		return 1
	}
	return 0
}

func TestMul(t *testing.T) {
	for _, x := range []struct {
		a, b uint64
		want U128
	}{
		{top, top, U128{top - 1, 1}},
		{0, top, U128{}},
		{1, top, U128{0, top}},
		{1 << 32, 1 << 32, U128{1, 0}},
		{6, 7, U128{0, 42}},
	} {
		if got := Mul(x.a, x.b); got != x.want {
			t.Errorf("Mul(%d, %d) = %v", x.a, x.b, got)
		}
		if got := Mul(x.b, x.a); got != x.want {
			t.Errorf("Mul(%d, %d) = %v", x.b, x.a, got)
		}
	}
	for _, x := range []struct {
		a    U128
		b    uint64
		want U192
	}{
		{top128, top, U192{top - 1, top, 1}},
		{top128, 0, U192{}},
		{top128, 1, U192{0, top, top}},
		{U128{0, top}, top, U192{0, top - 1, 1}},
		{U128{1, 0}, 5, U192{0, 5, 0}},
		{U128{1 << 63, 1 << 63}, 2, U192{1, 1, 0}},
	} {
		if got := x.a.Mul(x.b); got != x.want {
			t.Errorf("%v.Mul(%d) = %v", x.a, x.b, got)
		}
	}
}

func TestAddAndSub128(t *testing.T) {
	for _, x := range []struct {
		a, b, sum U128
		carry     uint64
		diff      U128
		borrow    uint64
	}{
		{U128{}, U128{}, U128{}, 0, U128{}, 0},
		{U128{0, 7}, U128{0, 5}, U128{0, 12}, 0, U128{0, 2}, 0},
		{U128{1, 0}, U128{0, 1}, U128{1, 1}, 0, U128{0, top}, 0},
		{U128{0, top}, U128{0, 1}, U128{1, 0}, 0, U128{0, top - 1}, 0},
		{U128{}, U128{0, 1}, U128{0, 1}, 0, top128, 1},
		{top128, U128{0, 1}, U128{}, 1, U128{top, top - 1}, 0},
		{top128, top128, U128{top, top - 1}, 1, U128{}, 0},
		{U128{1 << 63, 0}, U128{1 << 63, 0}, U128{}, 1, U128{}, 0},
	} {
		if got, c := x.a.Add(x.b); got != x.sum || c != x.carry {
			t.Errorf("%v.Add(%v) = %v, %d", x.a, x.b, got, c)
		}
		if got, c := x.a.Sub(x.b); got != x.diff || c != x.borrow {
			t.Errorf("%v.Sub(%v) = %v, %d", x.a, x.b, got, c)
		}
	}
}

func TestAddAndSub192(t *testing.T) {
	for _, x := range []struct {
		a, b, sum U192
		carry     uint64
		diff      U192
		borrow    uint64
	}{
		{U192{}, U192{}, U192{}, 0, U192{}, 0},
		{U192{0, 0, 7}, U192{0, 0, 5}, U192{0, 0, 12}, 0, U192{0, 0, 2}, 0},
		{U192{1, 0, 0}, U192{0, 0, 1}, U192{1, 0, 1}, 0, U192{0, top, top}, 0},
		{U192{0, top, top}, U192{0, 0, 1}, U192{1, 0, 0}, 0, U192{0, top, top - 1}, 0},
		{U192{}, U192{0, 0, 1}, U192{0, 0, 1}, 0, top192, 1},
		{top192, U192{0, 0, 1}, U192{}, 1, U192{top, top, top - 1}, 0},
		{top192, top192, U192{top, top, top - 1}, 1, U192{}, 0},
		{U192{1 << 63, 0, 0}, U192{1 << 63, 0, 0}, U192{}, 1, U192{}, 0},
	} {
		if got, c := x.a.Add(x.b); got != x.sum || c != x.carry {
			t.Errorf("%v.Add(%v) = %v, %d", x.a, x.b, got, c)
		}
		if got, c := x.a.Sub(x.b); got != x.diff || c != x.borrow {
			t.Errorf("%v.Sub(%v) = %v, %d", x.a, x.b, got, c)
		}
	}
}

func TestCmp(t *testing.T) {
	up128 := []U128{{}, {0, 1}, {0, top}, {1, 0}, {1, top}, {2, 1}, {top, 0}, top128}
	for i, a := range up128 {
		for j, b := range up128 {
			if got := a.Cmp(b); got != join(uint64(i)).Cmp(join(uint64(j))) {
				t.Errorf("%v.Cmp(%v) = %d", a, b, got)
			}
		}
	}
	up192 := []U192{{}, {0, 0, top}, {0, 1, 0}, {0, 1, top}, {0, top, 0}, {1, 0, top}, {1, 2, 1}, {2, 1, 0}, top192}
	for i, a := range up192 {
		for j, b := range up192 {
			if got := a.Cmp(b); got != join(uint64(i)).Cmp(join(uint64(j))) {
				t.Errorf("%v.Cmp(%v) = %d", a, b, got)
			}
		}
	}
}

func TestLen(t *testing.T) {
	if n := (U128{}).Len(); n != 0 {
		t.Error(n)
	}
	if n := (U192{}).Len(); n != 0 {
		t.Error(n)
	}
	for n := range 192 {
		a := U192{0, 0, 1}.Shl(n)
		if got := a.Len(); got != n+1 {
			t.Errorf("%v.Len() = %d", a, got)
		}
		if n >= 128 {
			continue
		}
		b := U128{0, 1}.Shl(n)
		if got := b.Len(); got != n+1 {
			t.Errorf("%v.Len() = %d", b, got)
		}
	}
	if top128.Len() != 128 || top192.Len() != 192 {
		t.Error(top128.Len(), top192.Len())
	}
}

func TestShiftExamples(t *testing.T) {
	if a, lost := (U128{1, 0}).Shr(1); a != (U128{0, 1 << 63}) || lost {
		t.Error(a, lost)
	}
	if a, lost := (U128{0, 3}).Shr(1); a != (U128{0, 1}) || !lost {
		t.Error(a, lost)
	}
	if a, lost := top128.Shr(-1); a != top128 || lost {
		t.Error(a, lost)
	}
	if a, lost := (U128{}).Shr(128); a != (U128{}) || lost {
		t.Error(a, lost)
	}
	if a, lost := (U192{1, 0, 0}).Shr(128); a != (U192{0, 0, 1}) || lost {
		t.Error(a, lost)
	}
	if a, lost := (U192{1 << 63, 0, 0}).Shr(192); a != (U192{}) || !lost {
		t.Error(a, lost)
	}
	if a := top128.Shl(-1); a != top128 {
		t.Error(a)
	}
	if a := (U128{0, 5}).Shl(64); a != (U128{5, 0}) {
		t.Error(a)
	}
	if a := top192.Shl(-1); a != top192 {
		t.Error(a)
	}
	if a := (U192{7, 6, 5}).Shl(128); a != (U192{5, 0, 0}) {
		t.Error(a)
	}
	if top128.Shl(128) != (U128{}) || top192.Shl(192) != (U192{}) || top192.Shl(math.MaxInt) != (U192{}) {
		t.Error("a shift by all bits or more")
	}
}

// shifted tells what a shift to the right leaves of a, and whether something is lost, by math/big.
func shifted(a *big.Int, n int) (*big.Int, bool) {
	q := new(big.Int).Rsh(a, uint(n))
	return q, new(big.Int).Lsh(q, uint(n)).Cmp(a) != 0
}

func checkShift128(t *testing.T, a U128, n int) {
	near := min(max(n, 0), 300)
	if got, want := a.Shl(n), cut128(new(big.Int).Lsh(a.big(), uint(near))); got != want {
		t.Fatalf("%v.Shl(%d) = %v, not %v", a, n, got, want)
	}
	want, lost := shifted(a.big(), near)
	if got, l := a.Shr(n); got != cut128(want) || l != lost {
		t.Fatalf("%v.Shr(%d) = %v, %t, not %v, %t", a, n, got, l, want, lost)
	}
}

func checkShift192(t *testing.T, a U192, n int) {
	near := min(max(n, 0), 300)
	if got, want := a.Shl(n), cut192(new(big.Int).Lsh(a.big(), uint(near))); got != want {
		t.Fatalf("%v.Shl(%d) = %v, not %v", a, n, got, want)
	}
	want, lost := shifted(a.big(), near)
	if got, l := a.Shr(n); got != cut192(want) || l != lost {
		t.Fatalf("%v.Shr(%d) = %v, %t, not %v, %t", a, n, got, l, want, lost)
	}
}

func TestShifts(t *testing.T) {
	for _, n := range edgeShifts {
		for _, a := range all128() {
			checkShift128(t, a, n)
		}
		for _, a := range all192() {
			checkShift192(t, a, n)
		}
	}
	s := stream(1)
	for n := range 260 {
		for range 20 {
			checkShift128(t, s.u128(), n)
			checkShift192(t, s.u192(), n)
		}
	}
}

func TestDivExamples(t *testing.T) {
	for _, x := range []struct {
		a    U128
		b    uint64
		q    U128
		rest uint64
	}{
		{U128{1, 5}, 10, U128{0, 1844674407370955162}, 1},
		{U128{1, 0}, 0, U128{}, 0},
		{top128, 0, U128{}, 0},
		{U128{}, 0, U128{}, 0},
		{top128, 1, top128, 0},
		{top128, top, U128{1, 1}, 0},
		{U128{0, 3}, 4, U128{}, 3},
		{U128{4, 0}, 2, U128{2, 0}, 0},
	} {
		if q, r := x.a.Div(x.b); q != x.q || r != x.rest {
			t.Errorf("%v.Div(%d) = %v, %d", x.a, x.b, q, r)
		}
	}
	for _, x := range []struct {
		a    U192
		b    U128
		q    U192
		rest U128
	}{
		{top192, U128{}, U192{}, U128{}},
		{U192{}, U128{}, U192{}, U128{}},
		{top192, U128{0, 1}, top192, U128{}},
		{top192, U128{0, top}, U192{1, 1, 1}, U128{}},
		{top192, top128, U192{0, 1, 0}, U128{0, top}},
		{U192{0, 0, 3}, U128{1, 0}, U192{}, U128{0, 3}},
		{U192{1, 0, 0}, U128{1, 0}, U192{0, 1, 0}, U128{}},
		{U192{0, top, top}, U128{1, 0}, U192{0, 0, top}, U128{0, top}},
	} {
		if q, r := x.a.Div(x.b); q != x.q || r != x.rest {
			t.Errorf("%v.Div(%v) = %v, %v", x.a, x.b, q, r)
		}
	}
}

func checkDiv128(t *testing.T, a U128, b uint64) {
	q, r := a.Div(b)
	if b == 0 {
		if q != (U128{}) || r != 0 {
			t.Fatalf("%v.Div(0) = %v, %d", a, q, r)
		}
		return
	}
	back, carry := U192.Add(q.Mul(b), U192{0, 0, r})
	if back != (U192{0, a.Hi, a.Lo}) || carry != 0 || r >= b {
		t.Fatalf("%v.Div(%d) = %v, %d", a, b, q, r)
	}
}

func checkDiv192(t *testing.T, a U192, b U128) {
	q, r := a.Div(b)
	if b == (U128{}) {
		if q != (U192{}) || r != (U128{}) {
			t.Fatalf("%v.Div(0) = %v, %v", a, q, r)
		}
		return
	}
	back := new(big.Int).Mul(q.big(), b.big())
	if back.Add(back, r.big()).Cmp(a.big()) != 0 || r.Cmp(b) >= 0 {
		t.Fatalf("%v.Div(%v) = %v, %v", a, b, q, r)
	}
}

// TestDiv checks what holds: quotient times b, plus the remainder, is a, and the remainder is less than b.
func TestDiv(t *testing.T) {
	for _, a := range all128() {
		for _, b := range edgeWords {
			checkDiv128(t, a, b)
		}
	}
	for _, a := range all192() {
		for _, b := range all128() {
			checkDiv192(t, a, b)
		}
	}
	s := stream(2)
	for range 100000 {
		checkDiv128(t, s.u128(), s.word())
		checkDiv192(t, s.u192(), s.u128())
	}
}

// TestDivNearProducts has dividends just below and at a multiple, where a guessed word of the quotient is wrong most often.
func TestDivNearProducts(t *testing.T) {
	s := stream(3)
	for range 20000 {
		b, q := s.u128(), s.word()
		a := b.Mul(q)
		checkDiv192(t, a, b)
		below, _ := a.Sub(U192{0, 0, 1})
		checkDiv192(t, below, b)
		above, _ := a.Add(U192{0, 0, 1})
		checkDiv192(t, above, b)
	}
}

func TestSqrtExamples(t *testing.T) {
	for _, x := range []struct {
		a    U128
		root uint64
		rest U128
	}{
		{U128{0, 17}, 4, U128{0, 1}},
		{U128{}, 0, U128{}},
		{U128{0, 1}, 1, U128{}},
		{U128{0, 2}, 1, U128{0, 1}},
		{U128{0, 3}, 1, U128{0, 2}},
		{U128{0, 4}, 2, U128{}},
		{U128{1, 0}, 1 << 32, U128{}},
		{U128{0, top}, 1<<32 - 1, U128{0, 1<<33 - 2}},
		{U128{top - 1, 1}, top, U128{}},
		{U128{top - 1, 0}, top - 1, U128{1, top - 3}},
		{top128, top, U128{1, top - 1}},
	} {
		if s, r := x.a.Sqrt(); s != x.root || r != x.rest {
			t.Errorf("%v.Sqrt() = %d, %v", x.a, s, r)
		}
	}
}

func checkSqrt(t *testing.T, a U128) {
	root, rest := a.Sqrt()
	back, carry := Mul(root, root).Add(rest)
	if back != a || carry != 0 || rest.Cmp(Mul(root, 2)) > 0 {
		t.Fatalf("%v.Sqrt() = %d, %v", a, root, rest)
	}
}

// TestSqrt checks what holds: the root's square plus the remainder is a, and the remainder is at most twice the root.
func TestSqrt(t *testing.T) {
	for _, a := range all128() {
		checkSqrt(t, a)
	}
	for n := range uint64(5000) {
		checkSqrt(t, U128{0, n})
	}
	s := stream(4)
	for range 20000 {
		checkSqrt(t, s.u128())
		w := s.word()
		square := Mul(w, w)
		checkSqrt(t, square)
		below, _ := square.Sub(U128{0, 1})
		checkSqrt(t, below)
	}
}

func TestSum(t *testing.T) {
	if s := Sum(); s != (U192{}) {
		t.Error(s)
	}
	if s := Sum(nil...); s != (U192{}) {
		t.Error(s)
	}
	if s := Sum(top128); s != (U192{0, top, top}) {
		t.Error(s)
	}
	if s := Sum(U128{0, 1}, U128{0, 2}, U128{3, 0}); s != (U192{0, 3, 3}) {
		t.Error(s)
	}
	if s := Sum(top128, top128, top128); s != (U192{2, top, top - 2}) {
		t.Error(s)
	}
	l := slices.Repeat([]U128{top128, {0, 1}, {1 << 63, 5}}, 100)
	kept := slices.Clone(l)
	want := new(big.Int)
	for _, a := range l {
		want.Add(want, a.big())
	}
	if s := Sum(l...); s != cut192(want) {
		t.Error(s)
	}
	if !slices.Equal(l, kept) {
		t.Error("an argument was changed")
	}
}

func checkPair128(t *testing.T, a, b U128) {
	sum, carry := a.Add(b)
	x := new(big.Int).Add(a.big(), b.big())
	if sum != cut128(x) || carry != outside(x, 128) {
		t.Fatalf("%v.Add(%v) = %v, %d", a, b, sum, carry)
	}
	if back, borrow := sum.Sub(b); back != a || borrow != carry {
		t.Fatalf("(%v + %v) - %v = %v, %d", a, b, b, back, borrow)
	}
	diff, borrow := a.Sub(b)
	y := new(big.Int).Sub(a.big(), b.big())
	if diff != cut128(y) || borrow != outside(y, 128) {
		t.Fatalf("%v.Sub(%v) = %v, %d", a, b, diff, borrow)
	}
	if c := a.Cmp(b); c != y.Sign() {
		t.Fatalf("%v.Cmp(%v) = %d", a, b, c)
	}
	if s := Sum(a, b, a); s != cut192(x.Add(x, a.big())) {
		t.Fatalf("Sum(%v, %v, %v) = %v", a, b, a, s)
	}
	if n := a.Len(); n != a.big().BitLen() {
		t.Fatalf("%v.Len() = %d", a, n)
	}
	if p := Mul(a.Hi, b.Lo); p != cut128(new(big.Int).Mul(join(a.Hi), join(b.Lo))) {
		t.Fatalf("Mul(%d, %d) = %v", a.Hi, b.Lo, p)
	}
	if p := a.Mul(b.Lo); p != cut192(new(big.Int).Mul(a.big(), join(b.Lo))) {
		t.Fatalf("%v.Mul(%d) = %v", a, b.Lo, p)
	}
}

func checkPair192(t *testing.T, a, b U192) {
	sum, carry := a.Add(b)
	x := new(big.Int).Add(a.big(), b.big())
	if sum != cut192(x) || carry != outside(x, 192) {
		t.Fatalf("%v.Add(%v) = %v, %d", a, b, sum, carry)
	}
	if back, borrow := sum.Sub(b); back != a || borrow != carry {
		t.Fatalf("(%v + %v) - %v = %v, %d", a, b, b, back, borrow)
	}
	diff, borrow := a.Sub(b)
	y := new(big.Int).Sub(a.big(), b.big())
	if diff != cut192(y) || borrow != outside(y, 192) {
		t.Fatalf("%v.Sub(%v) = %v, %d", a, b, diff, borrow)
	}
	if c := a.Cmp(b); c != y.Sign() {
		t.Fatalf("%v.Cmp(%v) = %d", a, b, c)
	}
	if n := a.Len(); n != a.big().BitLen() {
		t.Fatalf("%v.Len() = %d", a, n)
	}
}

// TestPairs holds sums, differences (with what holds of them), products, orders and lengths against math/big.
func TestPairs(t *testing.T) {
	for _, a := range all128() {
		for _, b := range all128() {
			checkPair128(t, a, b)
		}
	}
	for _, a := range all192() {
		b := U192{a.Lo, a.Hi, a.Mid}
		checkPair192(t, a, b)
		checkPair192(t, a, U192{a.Hi, a.Lo, a.Mid})
		checkPair192(t, a, top192)
	}
	s := stream(5)
	for range 20000 {
		checkPair128(t, s.u128(), s.u128())
		checkPair192(t, s.u192(), s.u192())
	}
}

// TestStreamReachesAllLengths: the checks above are worth little if words of some length are never made.
func TestStreamReachesAllLengths(t *testing.T) {
	s := stream(6)
	var seen [65]bool
	for range 20000 {
		seen[bits.Len64(s.word())] = true
	}
	for n, ok := range seen {
		if !ok && n > 0 {
			t.Errorf("no word of %d bits", n)
		}
	}
}
