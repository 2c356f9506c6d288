package ratio

import (
	"math"
	"math/big"
	"slices"
	"testing"

	"flyball/api"
	"flyball/nat"
)

const top = math.MaxUint32

// stream makes words from a fixed start, so that a failure can be had again.
type stream uint64

func (s *stream) next() uint64 {
	x := uint64(*s)
	x ^= x << 13
	x ^= x >> 7
	x ^= x << 17
	*s = stream(x)
	return x * 0x9e3779b97f4a7c15 >> 16
}

// nat has up to that many words, some of them at an edge, and often zero words at the end.
func (s *stream) nat(most int) nat.Nat {
	edges := []uint32{0, 1, 2, 6, 1 << 31, top}
	a := make(nat.Nat, s.next()%uint64(most+1))
	for i := range a {
		a[i] = uint32(s.next())
		if s.next()%3 == 0 {
			a[i] = edges[s.next()%uint64(len(edges))]
		}
	}
	for range s.next() % 3 {
		a = append(a, 0)
	}
	return a
}

// ratio is often not in lowest terms, and now and then it has a denominator of 0.
func (s *stream) ratio(most int) R {
	num, den := s.nat(most), s.nat(most)
	if s.next()%2 == 0 {
		common := s.nat(2)
		num, den = fromBig(new(big.Int).Mul(toBig(num), toBig(common))), fromBig(new(big.Int).Mul(toBig(den), toBig(common)))
	}
	return R{Neg: s.next()%2 == 0, Num: num, Den: den}
}

func toBig(a nat.Nat) *big.Int {
	x := new(big.Int)
	for i := range a {
		x.Lsh(x, 32)
		x.Or(x, big.NewInt(int64(a[len(a)-1-i])))
	}
	return x
}

func fromBig(x *big.Int) nat.Nat {
	var a nat.Nat
	for rest := new(big.Int).Set(x); rest.Sign() > 0; rest.Rsh(rest, 32) {
		a = append(a, uint32(new(big.Int).And(rest, big.NewInt(top)).Uint64()))
	}
	return a
}

// value is the number that an R represents, in lowest terms or not.
func value(a R) *big.Rat {
	den := toBig(a.Den)
	if den.Sign() == 0 {
		return new(big.Rat)
	}
	x := new(big.Rat).SetFrac(toBig(a.Num), den)
	if a.Neg {
		x.Neg(x)
	}
	return x
}

// small makes a number of any form, as it stands.
func small(neg bool, num, den uint32) R {
	return R{Neg: neg, Num: nat.Nat{num}, Den: nat.Nat{den}}
}

// edges has numbers in all forms that an argument may have: zeros of every kind, zero words, common factors, and long ones.
func edges() []R {
	all := []R{
		{},
		{Neg: true},
		{Num: nat.Nat{5}},
		{Neg: true, Num: nat.Nat{5}, Den: nat.Nat{}},
		{Neg: true, Num: nat.Nat{7, 1, 0}, Den: nat.Nat{0, 0, 0}},
		{Den: nat.Nat{1}},
		{Neg: true, Num: nat.Nat{0, 0}, Den: nat.Nat{4, 0}},
		{Num: nat.Nat{6, 0, 0}, Den: nat.Nat{4, 0}},
		{Neg: true, Num: nat.Nat{6, 0}, Den: nat.Nat{9, 0, 0}},
		{Num: nat.Nat{top, top}, Den: nat.Nat{top}},
		{Neg: true, Num: nat.Nat{0, 0, 0, 1}, Den: nat.Nat{0, 1}},
		{Num: nat.Nat{0, 8}, Den: nat.Nat{0, 0, 0, 12}},
		{Num: nat.Nat{top, top, top}, Den: nat.Nat{top - 1, top, top}},
		{Neg: true, Num: nat.Nat{top - 1, top, top}, Den: nat.Nat{top, top, top}},
	}
	for _, neg := range []bool{false, true} {
		for _, num := range []uint32{1, 2, 3, 4, 6, top} {
			for _, den := range []uint32{1, 2, 3, 6, 1 << 31, top} {
				all = append(all, small(neg, num, den))
			}
		}
	}
	return all
}

// zeros has numbers that count as 0.
func zeros() []R {
	return slices.DeleteFunc(edges(), func(a R) bool { return value(a).Sign() != 0 })
}

// eachPair calls check for pairs of edges, and for many more.
func eachPair(check func(a, b R)) {
	for _, a := range edges() {
		for _, b := range edges() {
			check(a, b)
		}
	}
	s := stream(1)
	for range 20000 {
		a, b := s.ratio(4), s.ratio(4)
		check(a, b)
		check(a, a)
	}
	for range 20 {
		check(s.ratio(60), s.ratio(60))
	}
}

// eachOne calls check for the edges, and for many more.
func eachOne(check func(a R)) {
	for _, a := range edges() {
		check(a)
	}
	s := stream(2)
	for range 20000 {
		check(s.ratio(5))
	}
	for range 20 {
		check(s.ratio(60))
	}
}

// checkIs checks the number, and that it has the one form that a result may have.
func checkIs(t *testing.T, what string, got R, want *big.Rat) {
	t.Helper()
	for _, part := range []nat.Nat{got.Num, got.Den} {
		if len(part) > 0 && part[len(part)-1] == 0 {
			t.Fatalf("%s: a zero word at the end: %v", what, got)
		}
	}
	if got.Neg != (want.Sign() < 0) || toBig(got.Num).CmpAbs(want.Num()) != 0 || toBig(got.Den).Cmp(want.Denom()) != 0 {
		t.Fatalf("%s: %v, not %v", what, got, want)
	}
}

func checkErr(t *testing.T, what string, got, want api.Errno) {
	t.Helper()
	if got != want {
		t.Fatalf("%s: %v, not %v", what, got, want)
	}
}

// checkNothing checks that there is no number beside an error.
func checkNothing(t *testing.T, what string, got R) {
	t.Helper()
	if got.Neg || len(got.Num) != 0 || len(got.Den) != 0 {
		t.Fatalf("%s: %v beside an error", what, got)
	}
}

func TestErrorNumbers(t *testing.T) {
	if api.ErrRatioZero != 30 || api.ErrRatioLong != 31 {
		t.Error(api.ErrRatioZero, api.ErrRatioLong)
	}
}

func TestNew(t *testing.T) {
	for _, x := range []struct {
		neg      bool
		num, den nat.Nat
		want     R
	}{
		{true, nat.Nat{6}, nat.Nat{4}, small(true, 3, 2)},
		{false, nat.Nat{6}, nat.Nat{4}, small(false, 3, 2)},
		{true, nil, nat.Nat{5}, R{Den: nat.Nat{1}}},
		{true, nat.Nat{0, 0}, nat.Nat{5, 0}, R{Den: nat.Nat{1}}},
		{false, nat.Nat{5}, nat.Nat{5}, small(false, 1, 1)},
		{true, nat.Nat{12, 0, 0}, nat.Nat{18, 0}, small(true, 2, 3)},
		{false, nat.Nat{0, 1}, nat.Nat{0, 2}, small(false, 1, 2)},
		{true, nat.Nat{0, 0, 1}, nat.Nat{0, 1}, R{Neg: true, Num: nat.Nat{0, 1}, Den: nat.Nat{1}}},
	} {
		got, e := New(x.neg, x.num, x.den)
		if got.Neg != x.want.Neg || !slices.Equal(got.Num, x.want.Num) || !slices.Equal(got.Den, x.want.Den) || e != api.OK {
			t.Errorf("New(%t, %v, %v) = %v, %v", x.neg, x.num, x.den, got, e)
		}
	}
	eachOne(func(a R) {
		got, e := New(a.Neg, a.Num, a.Den)
		if toBig(a.Den).Sign() == 0 {
			checkErr(t, "New", e, api.ErrRatioZero)
			checkNothing(t, "New", got)
			return
		}
		checkErr(t, "New", e, api.OK)
		checkIs(t, "New", got, value(a))
	})
}

func TestNewWithoutDenominator(t *testing.T) {
	for _, num := range []nat.Nat{nil, {}, {0}, {1}, {0, 0, 3, 0}} {
		for _, den := range []nat.Nat{nil, {}, {0}, {0, 0, 0}} {
			for _, neg := range []bool{false, true} {
				got, e := New(neg, num, den)
				checkErr(t, "New", e, api.ErrRatioZero)
				checkNothing(t, "New", got)
			}
		}
	}
}

func TestInt(t *testing.T) {
	some := []int64{0, 1, -1, 2, -2, math.MaxInt32, math.MinInt32, top, -top, 1 << 32, -1 << 32, math.MaxInt64 - 1, math.MaxInt64, math.MinInt64 + 1, math.MinInt64}
	s := stream(3)
	for range 1000 {
		some = append(some, int64(s.next()<<16|s.next()>>32))
	}
	for _, x := range some {
		checkIs(t, "Int", Int(x), new(big.Rat).SetInt64(x))
	}
}

// dyad is m * 2^e.
func dyad(neg bool, m uint64, e int) *big.Rat {
	num, den := new(big.Int).SetUint64(m), big.NewInt(1)
	if e < 0 {
		den.Lsh(den, uint(-e))
	} else {
		num.Lsh(num, uint(e))
	}
	x := new(big.Rat).SetFrac(num, den)
	if neg {
		x.Neg(x)
	}
	return x
}

func TestDyad(t *testing.T) {
	for _, m := range []uint64{0, 1, 2, 3, 12, top, 1 << 32, 1 << 52, 1<<53 - 1, 1 << 63, math.MaxUint64} {
		for _, e := range []int{-8192, -8191, -1075, -1074, -65, -64, -63, -33, -32, -31, -3, -2, -1, 0, 1, 2, 31, 32, 33, 63, 64, 971, 1024, 8191, 8192} {
			for _, neg := range []bool{false, true} {
				got, err := Dyad(neg, m, e)
				checkErr(t, "Dyad", err, api.OK)
				checkIs(t, "Dyad", got, dyad(neg, m, e))
			}
		}
		for _, e := range []int{math.MinInt, math.MinInt + 1, -1 << 40, -65536, -8194, -8193, 8193, 8194, 65536, 1 << 40, math.MaxInt} {
			got, err := Dyad(true, m, e)
			checkErr(t, "Dyad", err, api.ErrRatioLong)
			checkNothing(t, "Dyad", got)
		}
	}
}

func TestAdd(t *testing.T) {
	eachPair(func(a, b R) {
		checkIs(t, "Add", a.Add(b), new(big.Rat).Add(value(a), value(b)))
	})
}

func TestSub(t *testing.T) {
	eachPair(func(a, b R) {
		checkIs(t, "Sub", a.Sub(b), new(big.Rat).Sub(value(a), value(b)))
	})
}

func TestMul(t *testing.T) {
	eachPair(func(a, b R) {
		checkIs(t, "Mul", a.Mul(b), new(big.Rat).Mul(value(a), value(b)))
	})
}

func TestDiv(t *testing.T) {
	eachPair(func(a, b R) {
		got, e := a.Div(b)
		if value(b).Sign() == 0 {
			checkErr(t, "Div", e, api.ErrRatioZero)
			checkNothing(t, "Div", got)
			return
		}
		checkErr(t, "Div", e, api.OK)
		checkIs(t, "Div", got, new(big.Rat).Quo(value(a), value(b)))
	})
}

func TestDivByZero(t *testing.T) {
	for _, a := range []R{{}, small(true, 3, 2), small(false, 0, 1), small(false, 8, 4)} {
		for _, b := range zeros() {
			got, e := a.Div(b)
			checkErr(t, "Div", e, api.ErrRatioZero)
			checkNothing(t, "Div", got)
		}
	}
}

func TestCmp(t *testing.T) {
	eachPair(func(a, b R) {
		if got, want := a.Cmp(b), value(a).Cmp(value(b)); got != want {
			t.Fatalf("%v.Cmp(%v) = %d, not %d", a, b, got, want)
		}
	})
	for _, a := range zeros() {
		for _, b := range zeros() {
			if a.Cmp(b) != 0 {
				t.Errorf("the zeros %v and %v differ", a, b)
			}
		}
		if a.Cmp(small(false, 1, top)) != -1 || a.Cmp(small(true, 1, top)) != 1 {
			t.Errorf("the zero %v is not between two numbers", a)
		}
	}
}

func TestSigns(t *testing.T) {
	eachOne(func(a R) {
		checkIs(t, "Neg1", a.Neg1(), new(big.Rat).Neg(value(a)))
		checkIs(t, "Neg1, twice", a.Neg1().Neg1(), value(a))
		checkIs(t, "Abs", a.Abs(), new(big.Rat).Abs(value(a)))
		if got := a.Sign(); got != value(a).Sign() {
			t.Fatalf("%v.Sign() = %d", a, got)
		}
	})
}

func TestLen(t *testing.T) {
	for _, x := range []struct {
		a    R
		want int
	}{
		{R{}, 1},
		{small(true, 7, 0), 1},
		{small(false, 0, 9), 1},
		{small(true, 1, 1), 2},
		{small(true, 6, 4), 4},
		{small(true, 12, 12), 2},
		{R{Num: nat.Nat{0, 1, 0}, Den: nat.Nat{3, 0}}, 35},
		{R{Num: nat.Nat{0, 1, 0}, Den: nat.Nat{2, 0}}, 33},
	} {
		if got := x.a.Len(); got != x.want {
			t.Errorf("%v.Len() = %d, not %d", x.a, got, x.want)
		}
	}
	eachOne(func(a R) {
		want := value(a).Num().BitLen() + value(a).Denom().BitLen()
		if got := a.Len(); got != want {
			t.Fatalf("%v.Len() = %d, not %d", a, got, want)
		}
	})
}

func TestText(t *testing.T) {
	for _, x := range []struct {
		a    R
		want string
	}{
		{R{}, "0"},
		{R{Neg: true}, "0"},
		{small(true, 7, 0), "0"},
		{small(true, 0, 9), "0"},
		{small(true, 6, 4), "-3/2"},
		{small(false, 6, 4), "3/2"},
		{small(true, 8, 2), "-4"},
		{small(false, 9, 9), "1"},
		{small(false, 1, top), "1/4294967295"},
		{small(true, 10, 1000), "-1/100"},
		{R{Neg: true, Num: nat.Nat{3, 0}, Den: nat.Nat{0, 0, 0, 0, 1, 0}}, "-3/340282366920938463463374607431768211456"},
	} {
		if got := x.a.Text(); got != x.want {
			t.Errorf("%v.Text() = %s, not %s", x.a, got, x.want)
		}
	}
	eachOne(func(a R) {
		if got, want := a.Text(), value(a).RatString(); got != want {
			t.Fatalf("%v.Text() = %s, not %s", a, got, want)
		}
	})
}

func TestMax(t *testing.T) {
	checkIs(t, "Max()", Max(), new(big.Rat))
	checkIs(t, "Max of no list", Max(nil...), new(big.Rat))
	for _, x := range []struct {
		l    []R
		want string
	}{
		{[]R{small(true, 6, 4)}, "-3/2"},
		{[]R{{}}, "0"},
		{[]R{small(false, 1, 3), small(false, 1, 2), small(true, 9, 1)}, "1/2"},
		{[]R{small(true, 1, 2), small(true, 1, 3)}, "-1/3"},
		{[]R{small(true, 1, 2), small(true, 7, 0)}, "0"},
		{[]R{small(false, 2, 4), small(false, 1, 2), small(false, 3, 6)}, "1/2"},
	} {
		if got := Max(x.l...).Text(); got != x.want {
			t.Errorf("Max(%v) = %s", x.l, got)
		}
	}
	eachOne(func(a R) { checkIs(t, "Max of one", Max(a), value(a)) })
	s := stream(4)
	for range 5000 {
		var l []R
		for range s.next()%6 + 1 {
			l = append(l, s.ratio(3))
		}
		want := slices.MaxFunc(l, func(a, b R) int { return value(a).Cmp(value(b)) })
		checkIs(t, "Max", Max(l...), value(want))
		slices.Reverse(l)
		checkIs(t, "Max, reversed", Max(l...), value(want))
	}
}

// TestLongNumbers: only Dyad has a limit; beyond MaxNat bits everything goes on.
func TestLongNumbers(t *testing.T) {
	long := make(nat.Nat, 2100)
	long[2099] = 1
	odd := long.Add(nat.New(1))
	a, e := New(true, odd, nat.New(1))
	checkErr(t, "New", e, api.OK)
	b, e := New(false, odd, long)
	checkErr(t, "New", e, api.OK)
	if a.Len() != 67170 || b.Len() != 134338 {
		t.Error(a.Len(), b.Len())
	}
	checkIs(t, "a + b", a.Add(b), new(big.Rat).Add(value(a), value(b)))
	checkIs(t, "a - b", a.Sub(b), new(big.Rat).Sub(value(a), value(b)))
	checkIs(t, "a * b", a.Mul(b), new(big.Rat).Mul(value(a), value(b)))
	q, e := a.Div(b)
	checkErr(t, "a / b", e, api.OK)
	checkIs(t, "a / b", q, new(big.Rat).Neg(new(big.Rat).SetInt(toBig(long))))
	if a.Cmp(b) != -1 || b.Cmp(a) != 1 || b.Cmp(Int(1)) != 1 {
		t.Error("the order of long numbers")
	}
}

// TestExamples has the examples of the chapter.
func TestExamples(t *testing.T) {
	a, e := New(true, nat.New(6), nat.New(4))
	if a.Text() != "-3/2" || e != api.OK {
		t.Error(a, e)
	}
	if zero, e := New(true, nat.New(0), nat.New(5)); zero.Text() != "0" || zero.Neg || e != api.OK {
		t.Error(zero, e)
	}
	if d, e := Dyad(false, 3, -1); d.Text() != "3/2" || e != api.OK {
		t.Error(d, e)
	}
	if sum := small(false, 1, 2).Add(small(false, 1, 3)); sum.Text() != "5/6" {
		t.Error(sum)
	}
	if _, e := a.Div(Int(0)); e != api.ErrRatioZero {
		t.Error(e)
	}
}
