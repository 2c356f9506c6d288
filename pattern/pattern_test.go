package pattern

import (
	"math"
	"math/big"
	"slices"
	"testing"

	"flyball/api"
	"flyball/ratio"
)

const (
	minus   = api.Float(1 << 63)
	plusInf = api.Float(0x7ff0000000000000)
	one     = api.Float(0x3ff0000000000000)
)

// stream makes words from a fixed start, so that a failure can be had again.
type stream uint64

func (s *stream) next() uint64 {
	x := uint64(*s)
	x ^= x << 13
	x ^= x >> 7
	x ^= x << 17
	*s = stream(x)
	return x * 0x2545f4914f6cdd1d
}

// float is of any class, and every class comes often.
func (s *stream) float() api.Float {
	exps := []uint64{0, 1, 1022, 1023, 1075, 2046, 2047, s.next() % 2048}
	fracs := []uint64{0, 1, 1 << 51, 1<<52 - 1, s.next() >> 12, s.next() >> 12}
	exp, frac := exps[s.next()>>32%8], fracs[s.next()>>32%6]
	return api.Float(s.next()>>63<<63 | exp<<52 | frac)
}

// edges has, for both signs, the first and the last float of each class and those beside a power of two.
func edges() []api.Float {
	var all []api.Float
	for _, sign := range []api.Float{0, minus} {
		for _, exp := range []api.Float{0, 1, 2, 511, 1022, 1023, 1024, 1074, 1075, 1076, 2045, 2046, 2047} {
			for _, frac := range []api.Float{0, 1, 2, 1<<51 - 1, 1 << 51, 1<<51 + 1, 1<<52 - 2, 1<<52 - 1} {
				all = append(all, sign|exp<<52|frac)
			}
		}
	}
	return all
}

// eachOne calls check for the edges, and for many more.
func eachOne(check func(f api.Float)) {
	for _, f := range edges() {
		check(f)
	}
	s := stream(7)
	for range 20000 {
		check(s.float())
		check(api.Float(s.next()))
	}
}

// eachPair calls check for pairs of edges, and for many more.
func eachPair(check func(a, b api.Float)) {
	for _, a := range edges() {
		for _, b := range edges() {
			check(a, b)
		}
	}
	s := stream(8)
	for range 20000 {
		a := s.float()
		check(a, s.float())
		check(a, a)
		check(a, a^minus)
		check(a, a+1)
	}
}

// machine is the float as the machine has it: the tests hold the package against it.
func machine(f api.Float) float64 { return math.Float64frombits(uint64(f)) }

func bits(x float64) api.Float { return api.Float(math.Float64bits(x)) }

func isFinite(f api.Float) bool { return machine(f)-machine(f) == 0 }

func TestErrorNumber(t *testing.T) {
	if api.ErrArg != 1 {
		t.Error(api.ErrArg)
	}
}

func TestMake(t *testing.T) {
	for _, x := range []struct {
		neg  bool
		exp  int
		frac uint64
		want api.Float
	}{
		{false, 0, 0, 0},
		{true, 0, 0, minus},
		{false, 1023, 0, one},
		{true, 1022, 1 << 51, 0xbfe8000000000000},
		{false, 0, 1, 1},
		{true, 0, 1<<52 - 1, 0x800fffffffffffff},
		{false, 1, 0, 0x0010000000000000},
		{false, 2046, 1<<52 - 1, 0x7fefffffffffffff},
		{true, 2047, 0, 0xfff0000000000000},
		{true, 2047, 1<<52 - 1, 0xffffffffffffffff},
	} {
		if got, e := Make(x.neg, x.exp, x.frac); got != x.want || e != api.OK {
			t.Errorf("Make(%t, %d, %x) = %x, %v", x.neg, x.exp, x.frac, got, e)
		}
	}
}

func TestMakeOutOfRange(t *testing.T) {
	for _, neg := range []bool{false, true} {
		for _, exp := range []int{math.MinInt, -2048, -2, -1, 2048, 2049, 4096, 1 << 32, math.MaxInt} {
			for _, frac := range []uint64{0, 1, 1<<52 - 1, 1 << 52, math.MaxUint64} {
				checkNoFloat(t, neg, exp, frac)
			}
		}
		for _, exp := range []int{0, 1, 1023, 2046, 2047} {
			for _, frac := range []uint64{1 << 52, 1<<52 + 1, 1 << 53, 1 << 63, math.MaxUint64} {
				checkNoFloat(t, neg, exp, frac)
			}
		}
	}
}

func checkNoFloat(t *testing.T, neg bool, exp int, frac uint64) {
	t.Helper()
	if got, e := Make(neg, exp, frac); got != 0 || e != api.ErrArg {
		t.Errorf("Make(%t, %d, %x) = %x, %v", neg, exp, frac, got, e)
	}
}

func TestParts(t *testing.T) {
	if neg, exp, frac := Parts(one); neg || exp != 1023 || frac != 0 {
		t.Error(neg, exp, frac)
	}
	if neg, exp, frac := Parts(0x8000000000000001); !neg || exp != 0 || frac != 1 {
		t.Error(neg, exp, frac)
	}
	if neg, exp, frac := Parts(0xffffffffffffffff); !neg || exp != 2047 || frac != 1<<52-1 {
		t.Error(neg, exp, frac)
	}
	eachOne(func(f api.Float) {
		neg, exp, frac := Parts(f)
		if neg != (f >= minus) || exp != int(f%minus/(1<<52)) || frac != uint64(f%(1<<52)) {
			t.Fatalf("Parts(%x) = %t, %d, %x", f, neg, exp, frac)
		}
		if back, e := Make(neg, exp, frac); back != f || e != api.OK {
			t.Fatalf("%x is made again as %x, %v", f, back, e)
		}
	})
}

func TestClass(t *testing.T) {
	for _, x := range []struct {
		f    api.Float
		want api.Class
	}{
		{0, api.Zero},
		{1, api.Subnormal},
		{0x000fffffffffffff, api.Subnormal},
		{0x0010000000000000, api.Normal},
		{one, api.Normal},
		{0x7fefffffffffffff, api.Normal},
		{0x7ff0000000000000, api.Infinite},
		{0x7ff0000000000001, api.NaN},
		{0x7ff8000000000000, api.NaN},
		{0x7fffffffffffffff, api.NaN},
	} {
		if Class(x.f) != x.want || Class(x.f|minus) != x.want {
			t.Errorf("Class(%x) = %v, %v", x.f, Class(x.f), Class(x.f|minus))
		}
	}
	eachOne(func(f api.Float) {
		if got := Class(f); got != wantClass(machine(f)) {
			t.Fatalf("Class(%x) = %v", f, got)
		}
	})
}

func wantClass(x float64) api.Class {
	switch {
	case x != x:
		return api.NaN
	case math.IsInf(x, 0):
		return api.Infinite
	case x == 0:
		return api.Zero
	case math.Abs(x) < 0x1p-1022:
		return api.Subnormal
	}
	return api.Normal
}

func TestSplit(t *testing.T) {
	for _, x := range []struct {
		f api.Float
		m uint64
		e int
	}{
		{one, 1 << 52, -52},
		{one + 1, 1<<52 + 1, -52},
		{0x3fb999999999999a, 2 * 3602879701896397, -56},
		{0, 0, 0},
		{1, 1, -1074},
		{0x000fffffffffffff, 1<<52 - 1, -1074},
		{0x0010000000000000, 1 << 52, -1074},
		{0x0020000000000000, 1 << 52, -1073},
		{0x7fefffffffffffff, 1<<53 - 1, 971},
		{plusInf, 0, 0},
		{plusInf + 1, 0, 0},
		{0x7fffffffffffffff, 0, 0},
	} {
		for _, f := range []api.Float{x.f, x.f | minus} {
			if m, e := Split(f); m != x.m || e != x.e {
				t.Errorf("Split(%x) = %d, %d", f, m, e)
			}
		}
	}
	eachOne(func(f api.Float) {
		m, e := Split(f)
		switch wantClass(machine(f)) {
		case api.Subnormal, api.Normal:
			if math.Ldexp(float64(m), e) != math.Abs(machine(f)) || m >= 1<<53 || e < -1074 || m < 1<<52 && e != -1074 {
				t.Fatalf("Split(%x) = %d, %d", f, m, e)
			}
		default:
			if m != 0 || e != 0 {
				t.Fatalf("Split(%x) = %d, %d", f, m, e)
			}
		}
	})
}

func TestValue(t *testing.T) {
	for _, x := range []struct {
		f    api.Float
		want string
	}{
		{0xbfe8000000000000, "-3/4"},
		{0x3fb999999999999a, "3602879701896397/36028797018963968"},
		{one, "1"},
		{one | minus, "-1"},
		{0, "0"},
		{minus, "0"},
		{0x4340000000000001, "9007199254740994"},
	} {
		if got, ok := Value(x.f); got.Text() != x.want || !ok {
			t.Errorf("Value(%x) = %s, %t", x.f, got.Text(), ok)
		}
	}
	for _, f := range edges() {
		checkValue(t, f)
	}
	s := stream(9)
	for range 1000 {
		checkValue(t, s.float())
	}
}

func checkValue(t *testing.T, f api.Float) {
	t.Helper()
	got, ok := Value(f)
	if !isFinite(f) {
		if ok || got.Neg || len(got.Num) != 0 || len(got.Den) != 0 {
			t.Fatalf("Value(%x) = %v, %t", f, got, ok)
		}
		return
	}
	want := new(big.Rat).SetFloat64(machine(f))
	if !ok || got.Neg != (want.Sign() < 0) || got.Num.Text() != new(big.Int).Abs(want.Num()).String() || got.Den.Text() != want.Denom().String() {
		t.Fatalf("Value(%x) = %s, %t", f, got.Text(), ok)
	}
}

// TestValueMemory: each value is made of memory of its own.
func TestValueMemory(t *testing.T) {
	for _, f := range []api.Float{0, minus, one, 1, 0x7fefffffffffffff} {
		a, _ := Value(f)
		want := a.Text()
		for _, part := range [][]uint32{a.Num, a.Den} {
			for i := range part[:cap(part)] {
				part[:cap(part)][i] ^= 0x5a5a5a5a
			}
		}
		if b, _ := Value(f); b.Text() != want {
			t.Errorf("Value(%x) once more is %s, not %s", f, b.Text(), want)
		}
	}
}

func TestCmp(t *testing.T) {
	for _, x := range []struct {
		a, b api.Float
		want int
	}{
		{0, minus, 0},
		{minus, 0, 0},
		{minus, minus, 0},
		{minus, 1, -1},
		{minus | 1, minus, -1},
		{minus | 1, 0, -1},
		{bits(-2), bits(-1), -1},
		{bits(2), bits(-1), 1},
		{plusInf, 0x7fefffffffffffff, 1},
		{plusInf, plusInf, 0},
		{plusInf | minus, 0xffefffffffffffff, -1},
		{plusInf | minus, plusInf, -1},
	} {
		if got, ok := Cmp(x.a, x.b); got != x.want || !ok {
			t.Errorf("Cmp(%x, %x) = %d, %t", x.a, x.b, got, ok)
		}
	}
	eachPair(func(a, b api.Float) {
		got, ok := Cmp(a, b)
		want, wantOK := wantCmp(machine(a), machine(b))
		if got != want || ok != wantOK {
			t.Fatalf("Cmp(%x, %x) = %d, %t", a, b, got, ok)
		}
	})
}

func wantCmp(x, y float64) (int, bool) {
	switch {
	case x < y:
		return -1, true
	case x > y:
		return 1, true
	}
	return 0, x == y
}

// TestCmpOfValues: floats compare as the numbers do that they represent.
func TestCmpOfValues(t *testing.T) {
	finite := slices.DeleteFunc(edges(), func(f api.Float) bool { return !isFinite(f) })
	values := map[api.Float]ratio.R{}
	for _, f := range finite {
		values[f], _ = Value(f)
	}
	for _, a := range finite {
		for _, b := range finite[:len(finite)/8] {
			if got, ok := Cmp(a, b); got != values[a].Cmp(values[b]) || !ok {
				t.Fatalf("Cmp(%x, %x) = %d, %t", a, b, got, ok)
			}
		}
	}
}

func TestLess(t *testing.T) {
	if !Less(one, one+1) || Less(one+1, one) || Less(minus, 0) || Less(0, minus) || Less(Quiet(), 0) || Less(0, Quiet()) {
		t.Error("Less")
	}
	eachPair(func(a, b api.Float) {
		if got := Less(a, b); got != (machine(a) < machine(b)) {
			t.Fatalf("Less(%x, %x) = %t", a, b, got)
		}
	})
}

func TestNext(t *testing.T) {
	checkSteps(t, "Next", Next, [][2]api.Float{
		{0, 1},
		{minus, 1},
		{0x8000000000000001, minus},
		{0x8000000000000002, 0x8000000000000001},
		{0x000fffffffffffff, 0x0010000000000000},
		{0x8010000000000000, 0x800fffffffffffff},
		{one, one + 1},
		{0x3fffffffffffffff, 0x4000000000000000},
		{0x7fefffffffffffff, plusInf},
		{plusInf, plusInf},
		{0xfff0000000000000, 0xffefffffffffffff},
		{0x7ff0000000000001, 0x7ff0000000000001},
		{0xfff0000000000001, 0xfff0000000000001},
		{0x7fffffffffffffff, 0x7fffffffffffffff},
		{0xffffffffffffffff, 0xffffffffffffffff},
	})
	checkAgainst(t, "Next", Next, math.Inf(1))
}

func TestPrev(t *testing.T) {
	checkSteps(t, "Prev", Prev, [][2]api.Float{
		{0, 0x8000000000000001},
		{minus, 0x8000000000000001},
		{1, 0},
		{2, 1},
		{0x800fffffffffffff, 0x8010000000000000},
		{0x0010000000000000, 0x000fffffffffffff},
		{0x4000000000000000, 0x3fffffffffffffff},
		{0xffefffffffffffff, 0xfff0000000000000},
		{0xfff0000000000000, 0xfff0000000000000},
		{plusInf, 0x7fefffffffffffff},
		{0x7ff0000000000001, 0x7ff0000000000001},
		{0xfff0000000000001, 0xfff0000000000001},
		{0x7fffffffffffffff, 0x7fffffffffffffff},
		{0xffffffffffffffff, 0xffffffffffffffff},
	})
	checkAgainst(t, "Prev", Prev, math.Inf(-1))
}

func checkSteps(t *testing.T, name string, step func(api.Float) api.Float, pairs [][2]api.Float) {
	t.Helper()
	for _, x := range pairs {
		if got := step(x[0]); got != x[1] {
			t.Errorf("%s(%x) = %x, not %x", name, x[0], got, x[1])
		}
	}
}

// checkAgainst holds a step against the library's, which makes a NaN of its own and differs in the sign of a zero.
func checkAgainst(t *testing.T, name string, step func(api.Float) api.Float, towards float64) {
	t.Helper()
	eachOne(func(f api.Float) {
		got, want := step(f), bits(math.Nextafter(machine(f), towards))
		switch {
		case machine(f) != machine(f):
			want = f
		case want == 0 || want == minus:
			want = f & minus
		}
		if got != want {
			t.Fatalf("%s(%x) = %x, not %x", name, f, got, want)
		}
	})
}

func TestNegAbs(t *testing.T) {
	for _, x := range [][3]api.Float{
		{0, minus, 0},
		{minus, 0, 0},
		{one, one | minus, one},
		{1 | minus, 1, 1},
		{plusInf, plusInf | minus, plusInf},
		{plusInf | minus, plusInf, plusInf},
		{0xfff0000000000001, 0xfff0000000000001, 0xfff0000000000001},
		{0x7ff0000000000001, 0x7ff0000000000001, 0x7ff0000000000001},
		{0xfff8000000000000, 0xfff8000000000000, 0xfff8000000000000},
	} {
		if Neg(x[0]) != x[1] || Abs(x[0]) != x[2] {
			t.Errorf("%x: Neg %x, Abs %x", x[0], Neg(x[0]), Abs(x[0]))
		}
	}
	eachOne(func(f api.Float) {
		neg, abs := bits(-machine(f)), bits(math.Abs(machine(f)))
		if machine(f) != machine(f) {
			neg, abs = f, f
		}
		if Neg(f) != neg || Abs(f) != abs {
			t.Fatalf("%x: Neg %x, Abs %x", f, Neg(f), Abs(f))
		}
	})
}

func TestInfQuiet(t *testing.T) {
	if Inf(false) != 0x7ff0000000000000 || Inf(true) != 0xfff0000000000000 {
		t.Errorf("Inf: %x, %x", Inf(false), Inf(true))
	}
	if Quiet() != 0x7ff8000000000000 {
		t.Errorf("Quiet: %x", Quiet())
	}
}

func TestMaxMin(t *testing.T) {
	nan := api.Float(0xfff0000000000001)
	for _, x := range []struct {
		l        []api.Float
		max, min api.Float
	}{
		{nil, Quiet(), Quiet()},
		{[]api.Float{one}, one, one},
		{[]api.Float{minus}, minus, minus},
		{[]api.Float{0, minus}, 0, 0},
		{[]api.Float{minus, 0}, minus, minus},
		{[]api.Float{minus | 1, minus, 0}, minus, minus | 1},
		{[]api.Float{1, 0, minus}, 1, 0},
		{[]api.Float{bits(1), bits(3), bits(2)}, bits(3), bits(1)},
		{[]api.Float{bits(-1), bits(-3), bits(-2)}, bits(-1), bits(-3)},
		{[]api.Float{Inf(true), bits(5), Inf(false)}, Inf(false), Inf(true)},
		{[]api.Float{nan}, Quiet(), Quiet()},
		{[]api.Float{nan, one}, Quiet(), Quiet()},
		{[]api.Float{one, nan}, Quiet(), Quiet()},
		{[]api.Float{Inf(false), one, nan, Inf(true)}, Quiet(), Quiet()},
	} {
		if Max(x.l...) != x.max || Min(x.l...) != x.min {
			t.Errorf("%x: Max %x, Min %x", x.l, Max(x.l...), Min(x.l...))
		}
	}
}

// TestMaxMinOfMany holds both against the list sorted by the machine's order, which keeps equal ones in their places.
func TestMaxMinOfMany(t *testing.T) {
	s := stream(10)
	for range 20000 {
		l := make([]api.Float, 1+s.next()>>32%6)
		hasNaN := false
		for i := range l {
			l[i] = s.float()
			if s.next()>>32%8 != 0 {
				l[i] &^= 1 << 62 // few NaNs, or nearly every list would have one
			}
			hasNaN = hasNaN || machine(l[i]) != machine(l[i])
		}
		kept := slices.Clone(l)
		max, min := Max(l...), Min(l...)
		if !slices.Equal(l, kept) {
			t.Fatalf("%x became %x", kept, l)
		}
		wantMin := slices.MinFunc(l, func(a, b api.Float) int { c, _ := wantCmp(machine(a), machine(b)); return c })
		wantMax := slices.MaxFunc(l, func(a, b api.Float) int { c, _ := wantCmp(machine(a), machine(b)); return c })
		if hasNaN {
			wantMin, wantMax = 0x7ff8000000000000, 0x7ff8000000000000
		}
		if max != wantMax || min != wantMin {
			t.Fatalf("%x: Max %x, Min %x", l, max, min)
		}
	}
}
