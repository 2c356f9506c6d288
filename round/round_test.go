package round

import (
	"math"
	"math/big"
	"slices"
	"testing"

	"flyball/api"
	"flyball/nat"
	"flyball/ratio"
	"flyball/wide"
)

const (
	inexact = api.Inexact
	under   = api.Inexact | api.Underflow
	over    = api.Inexact | api.Overflow
)

type answer struct {
	f api.Float
	g api.Flags
}

// inModes are the answers in the modes Near, Up and Down.
type inModes [3]answer

func same(f api.Float) inModes { return inModes{{f, 0}, {f, 0}, {f, 0}} }

// mirrored are the answers for the negated number.
func (a inModes) mirrored() inModes {
	for i := range a {
		a[i].f ^= minus
	}
	return inModes{a[0], a[2], a[1]}
}

func checkModes(t *testing.T, what string, want inModes, call func(api.Mode) (api.Float, api.Flags)) {
	t.Helper()
	for i, mode := range modes {
		if f, g := call(mode); f != want[i].f || g != want[i].g {
			t.Errorf("%s, mode %d: %x with flags %d, not %x with flags %d", what, mode, f, g, want[i].f, want[i].g)
		}
	}
}

type roundCase struct {
	what string
	m    wide.U128
	e    int
	rest bool
	want inModes
}

// checkRound asks for each number and for the negated one.
func checkRound(t *testing.T, cases []roundCase) {
	t.Helper()
	for _, x := range cases {
		checkModes(t, x.what, x.want, func(mode api.Mode) (api.Float, api.Flags) { return Round(false, x.m, x.e, x.rest, mode) })
		checkModes(t, "-"+x.what, x.want.mirrored(), func(mode api.Mode) (api.Float, api.Flags) { return Round(true, x.m, x.e, x.rest, mode) })
	}
}

func low(m uint64) wide.U128 { return wide.U128{Lo: m} }

func TestRound(t *testing.T) {
	two53, all := bits(1<<53), wide.U128{Hi: math.MaxUint64, Lo: math.MaxUint64}
	checkRound(t, []roundCase{
		{"1.5", low(3), -1, false, same(0x3ff8000000000000)},
		{"1", low(1), 0, false, same(one)},
		{"2^53 - 1", low(1<<53 - 1), 0, false, same(bits(1<<53 - 1))},
		{"2^63", low(1 << 63), 0, false, same(bits(1 << 63))},
		{"2^127", wide.U128{Hi: 1 << 63}, 0, false, same(bits(0x1p127))},
		{"2^127 as 1", wide.U128{Hi: 1 << 63}, -127, false, same(one)},
		{"a tie to the even one below", low(1<<53 + 1), 0, false, inModes{{two53, inexact}, {two53 + 1, inexact}, {two53, inexact}}},
		{"a tie to the even one above", low(1<<53 + 3), 0, false, inModes{{two53 + 2, inexact}, {two53 + 2, inexact}, {two53 + 1, inexact}}},
		{"more than a tie", low(1<<53 + 1), 0, true, inModes{{two53 + 1, inexact}, {two53 + 1, inexact}, {two53, inexact}}},
		{"below a tie", low(1<<54 + 1), 0, true, inModes{{bits(1 << 54), inexact}, {bits(1<<54) + 1, inexact}, {bits(1 << 54), inexact}}},
		{"a rest alone", low(1 << 53), 0, true, inModes{{two53, inexact}, {two53 + 1, inexact}, {two53, inexact}}},
		{"all bits", all, 0, false, inModes{{bits(0x1p128), inexact}, {bits(0x1p128), inexact}, {bits(0x1p128) - 1, inexact}}},
		{"a last bit of 128", wide.U128{Hi: 1 << 63, Lo: 1}, 0, false, inModes{{bits(0x1p127), inexact}, {bits(0x1p127) + 1, inexact}, {bits(0x1p127), inexact}}},
	})
}

func TestRoundSmall(t *testing.T) {
	least := inModes{{0, under}, {1, under}, {0, under}}
	checkRound(t, []roundCase{
		{"the least float", low(1), -1074, false, same(1)},
		{"the least float of 2^127", wide.U128{Hi: 1 << 63}, -1201, false, same(1)},
		{"half of it", low(1), -1075, false, least},
		{"half of it and a rest", low(1 << 53), -1128, true, inModes{{1, under}, {1, under}, {0, under}}},
		{"more than half", low(5), -1077, false, inModes{{1, under}, {1, under}, {0, under}}},
		{"less than half", low(3), -1077, false, least},
		{"a quarter", low(1), -1076, false, least},
		{"a tie below 2", low(3), -1075, false, inModes{{2, under}, {2, under}, {1, under}}},
		{"the greatest subnormal float", low(1<<52 - 1), -1074, false, same(0x000fffffffffffff)},
		{"2^-1022", low(1), -1022, false, same(0x0010000000000000)},
		// It is less than 2^-1022, though it may be rounded to that.
		{"a tie below 2^-1022", low(1<<53 - 1), -1075, false, inModes{{0x0010000000000000, under}, {0x0010000000000000, under}, {0x000fffffffffffff, under}}},
		{"a rest below 2^-1022", low(1<<54 - 1), -1076, true, inModes{{0x0010000000000000, under}, {0x0010000000000000, under}, {0x000fffffffffffff, under}}},
		{"a rest above 2^-1022", low(1 << 53), -1075, true, inModes{{0x0010000000000000, inexact}, {0x0010000000000001, inexact}, {0x0010000000000000, inexact}}},
		{"a tie above 2^-1022", low(1<<53 + 1), -1075, false, inModes{{0x0010000000000000, inexact}, {0x0010000000000001, inexact}, {0x0010000000000000, inexact}}},
		{"e of -5000", low(1), -5000, false, least},
		{"e of -5001", low(1), -5001, false, least},
		{"the least e", wide.U128{Hi: math.MaxUint64, Lo: math.MaxUint64}, math.MinInt, true, least},
	})
}

func TestRoundGreat(t *testing.T) {
	huge := inModes{{plusInf, over}, {plusInf, over}, {greatest, over}}
	checkRound(t, []roundCase{
		{"the greatest float", low(1<<53 - 1), 971, false, same(greatest)},
		{"2^1024 - 2^970", low(1<<54 - 1), 970, false, inModes{{plusInf, over}, {plusInf, over}, {greatest, inexact}}},
		{"a little less", low(1<<55 - 3), 969, false, inModes{{greatest, inexact}, {plusInf, over}, {greatest, inexact}}},
		{"less by a rest", low(1<<55 - 3), 969, true, inModes{{greatest, inexact}, {plusInf, over}, {greatest, inexact}}},
		{"a little more", low(1<<54 - 1), 970, true, inModes{{plusInf, over}, {plusInf, over}, {greatest, inexact}}},
		{"a rest above the greatest float", low(1<<54 - 2), 970, true, inModes{{greatest, inexact}, {plusInf, over}, {greatest, inexact}}},
		{"a rest below 2^1024", wide.U128{Hi: math.MaxUint64, Lo: math.MaxUint64}, 896, true, inModes{{plusInf, over}, {plusInf, over}, {greatest, inexact}}},
		{"2^1024", low(1), 1024, false, huge},
		{"2^1024 of 128 bits", wide.U128{Hi: 1 << 63}, 897, false, huge},
		{"e of 5000", low(1), 5000, false, huge},
		{"e of 5001", low(1), 5001, false, huge},
		{"the greatest e", wide.U128{Hi: math.MaxUint64, Lo: math.MaxUint64}, math.MaxInt, true, huge},
	})
}

// TestRoundZero: a rest is used only if m has 54 bits, so m alone makes x 0.
func TestRoundZero(t *testing.T) {
	for _, e := range []int{math.MinInt, -5001, -1074, 0, 1024, 5001, math.MaxInt} {
		for _, rest := range []bool{false, true} {
			for mode := api.Mode(0); mode < 5; mode++ {
				if f, g := Round(false, wide.U128{}, e, rest, mode); f != 0 || g != 0 {
					t.Errorf("e %d, rest %t, mode %d: %x, %d", e, rest, mode, f, g)
				}
				if f, g := Round(true, wide.U128{}, e, rest, mode); f != minus || g != 0 {
					t.Errorf("e %d, rest %t, mode %d: %x, %d", e, rest, mode, f, g)
				}
			}
		}
	}
}

func TestRestNeeds54Bits(t *testing.T) {
	for size := 1; size <= 128; size++ {
		m := wide.U128{Lo: 1}.Shl(size - 1)
		for _, e := range []int{-1300, -1130, -1074, -53, 0, 700} {
			for _, mode := range modes {
				f, g := Round(false, m, e, false, mode)
				fRest, gRest := Round(false, m, e, true, mode)
				if size < 54 && (f != fRest || g != gRest) {
					t.Errorf("%d bits, e %d, mode %d: the rest makes %x, %d of %x, %d", size, e, mode, fRest, gRest, f, g)
				}
				if size >= 54 && gRest&api.Inexact == 0 {
					t.Errorf("%d bits, e %d, mode %d: the rest is lost: %x, %d", size, e, mode, fRest, gRest)
				}
			}
		}
	}
}

// TestRoundOfMany holds Round against the definition; the amount of a rest may be any.
func TestRoundOfMany(t *testing.T) {
	s := stream(1)
	rests := []*big.Rat{pow2(-200), big.NewRat(1, 2), new(big.Rat).Sub(pow2(0), pow2(-200))}
	for range 6000 {
		m, neg, rest := s.wide(), s.bool(), s.bool()
		e := s.exponent(m.Len())
		x := new(big.Rat).SetInt(bigOf(m))
		if rest && m.Len() >= 54 {
			x.Add(x, rests[s.below(3)])
		}
		x.Mul(x, pow2(e))
		if neg {
			x.Neg(x)
		}
		for _, mode := range modes {
			wantF, wantG := want(x, mode)
			if f, g := Round(neg, m, e, rest, mode); f != wantF || g != wantG {
				t.Fatalf("Round(%t, %x, %d, %t, %d) = %x, %d, not %x, %d", neg, m, e, rest, mode, f, g, wantF, wantG)
			}
		}
	}
}

func TestRoundBoundsE(t *testing.T) {
	s := stream(2)
	for range 2000 {
		m, neg, rest, mode := s.wide(), s.bool(), s.bool(), modes[s.below(3)]
		beyond := s.below(1 << 30)
		f, g := Round(neg, m, 5000, rest, mode)
		if f1, g1 := Round(neg, m, 5000+beyond, rest, mode); f1 != f || g1 != g {
			t.Fatalf("%x, e %d: %x, %d", m, 5000+beyond, f1, g1)
		}
		f, g = Round(neg, m, -5000, rest, mode)
		if f1, g1 := Round(neg, m, -5000-beyond, rest, mode); f1 != f || g1 != g {
			t.Fatalf("%x, e %d: %x, %d", m, -5000-beyond, f1, g1)
		}
	}
}

// TestOtherModes: any mode but the three counts as Near.
func TestOtherModes(t *testing.T) {
	s := stream(3)
	for mode := 3; mode < 256; mode++ {
		m, neg, rest := s.wide(), s.bool(), s.bool()
		e := s.exponent(m.Len())
		f, g := Round(neg, m, e, rest, api.Near)
		if f1, g1 := Round(neg, m, e, rest, api.Mode(mode)); f1 != f || g1 != g {
			t.Fatalf("Round(%t, %x, %d, %t, %d) = %x, %d, not %x, %d", neg, m, e, rest, mode, f1, g1, f, g)
		}
		num, den := nat.New(s.next()), nat.New(s.next())
		f, g = Frac(neg, num, den, api.Near)
		if f1, g1 := Frac(neg, num, den, api.Mode(mode)); f1 != f || g1 != g {
			t.Fatalf("Frac(%t, %v, %v, %d) = %x, %d, not %x, %d", neg, num, den, mode, f1, g1, f, g)
		}
		if f1, g1 := Exact(ratio.R{Neg: neg, Num: num, Den: den}, api.Mode(mode)); f1 != f || g1 != g {
			t.Fatalf("Exact of %v / %v, mode %d: %x, %d, not %x, %d", num, den, mode, f1, g1, f, g)
		}
	}
	for _, neg := range []bool{false, true} {
		inf, _ := Round(neg, low(1), 1024, false, api.Near)
		if f, g := Round(neg, low(1), 1024, false, 3); f != inf || g != over {
			t.Errorf("2^1024, mode 3: %x, %d", f, g)
		}
	}
}

func TestFrac(t *testing.T) {
	shl := func(n int) nat.Nat { a, _ := nat.New(1).Shl(n); return a }
	edge, _ := shl(1024).Sub(shl(970))
	third := api.Float(0x3fd5555555555555)
	for _, x := range []struct {
		what     string
		num, den nat.Nat
		want     inModes
	}{
		{"1/3", nat.New(1), nat.New(3), inModes{{third, inexact}, {third + 1, inexact}, {third, inexact}}},
		{"2/6", nat.New(2), nat.New(6), inModes{{third, inexact}, {third + 1, inexact}, {third, inexact}}},
		{"6/4", nat.New(6), nat.New(4), same(bits(1.5))},
		{"7/7", nat.New(7), nat.New(7), same(one)},
		{"1/2 with zero words", nat.Nat{1, 0, 0}, nat.Nat{2, 0}, same(bits(0.5))},
		{"2^1024 - 2^970", edge, nat.New(1), inModes{{plusInf, over}, {plusInf, over}, {greatest, inexact}}},
		{"2^1024", shl(1024), nat.New(1), inModes{{plusInf, over}, {plusInf, over}, {greatest, over}}},
		{"2^1023", shl(1023), nat.New(1), same(0x7fe0000000000000)},
		{"2^-1074", nat.New(1), shl(1074), same(1)},
		{"2^-1075", nat.New(1), shl(1075), inModes{{0, under}, {1, under}, {0, under}}},
		{"3 * 2^-1076", nat.New(3), shl(1076), inModes{{1, under}, {1, under}, {0, under}}},
		{"2^60000", shl(60000), nat.New(1), inModes{{plusInf, over}, {plusInf, over}, {greatest, over}}},
		{"2^-60000", nat.New(1), shl(60000), inModes{{0, under}, {1, under}, {0, under}}},
	} {
		kept := [2]nat.Nat{slices.Clone(x.num), slices.Clone(x.den)}
		checkModes(t, x.what, x.want, func(mode api.Mode) (api.Float, api.Flags) { return Frac(false, x.num, x.den, mode) })
		checkModes(t, "-"+x.what, x.want.mirrored(), func(mode api.Mode) (api.Float, api.Flags) { return Frac(true, x.num, x.den, mode) })
		checkModes(t, x.what, x.want, func(mode api.Mode) (api.Float, api.Flags) { return Exact(ratio.R{Num: x.num, Den: x.den}, mode) })
		checkModes(t, "-"+x.what, x.want.mirrored(), func(mode api.Mode) (api.Float, api.Flags) {
			return Exact(ratio.R{Neg: true, Num: x.num, Den: x.den}, mode)
		})
		if !slices.Equal(x.num, kept[0]) || !slices.Equal(x.den, kept[1]) {
			t.Errorf("%s: the arguments became %v and %v", x.what, x.num, x.den)
		}
	}
}

// TestFracZero: with a 0 in either place the result is +0, whatever the sign and the mode.
func TestFracZero(t *testing.T) {
	for _, x := range [][2]nat.Nat{{nil, nil}, {nil, {5}}, {{5}, nil}, {{0, 0}, {5}}, {{5}, {0, 0, 0}}, {{}, {0}}, {nil, {0, 0, 1}}} {
		for _, neg := range []bool{false, true} {
			for mode := api.Mode(0); mode < 5; mode++ {
				if f, g := Frac(neg, x[0], x[1], mode); f != 0 || g != 0 {
					t.Errorf("Frac(%t, %v, %v, %d) = %x, %d", neg, x[0], x[1], mode, f, g)
				}
				if f, g := Exact(ratio.R{Neg: neg, Num: x[0], Den: x[1]}, mode); f != 0 || g != 0 {
					t.Errorf("Exact of %t, %v, %v, mode %d: %x, %d", neg, x[0], x[1], mode, f, g)
				}
			}
		}
	}
	if f, g := Exact(ratio.Int(0), api.Down); f != 0 || g != 0 {
		t.Errorf("Exact of 0: %x, %d", f, g)
	}
}

// TestFracOfMany holds Frac and Exact against the definition, for quotients of all sizes, and for those beside floats and ties.
func TestFracOfMany(t *testing.T) {
	s := stream(4)
	for range 3000 {
		num, den := s.big(1+s.below(1300)), s.big(1+s.below(1300))
		switch s.below(3) {
		case 0: // beside a float, or beside the middle of two
			den = new(big.Int).Set(bigOf(s.wide()))
			num = new(big.Int).Mul(den, bigOf(s.wide()))
			num.Add(num, big.NewInt(int64(s.below(3)-1)))
		case 1: // in the range of all floats
			num.Lsh(num, uint(s.below(1100)))
			den.Lsh(den, uint(s.below(1100)))
		}
		if num.Sign() > 0 {
			checkFrac(t, s.bool(), num, den)
		}
	}
}

func checkFrac(t *testing.T, neg bool, num, den *big.Int) {
	t.Helper()
	x := new(big.Rat).SetFrac(num, den)
	if neg {
		x.Neg(x)
	}
	n, d := natOf(num), natOf(den)
	for _, mode := range modes {
		wantF, wantG := want(x, mode)
		if f, g := Frac(neg, n, d, mode); f != wantF || g != wantG {
			t.Fatalf("Frac(%t, %v, %v, %d) = %x, %d, not %x, %d", neg, num, den, mode, f, g, wantF, wantG)
		}
		if f, g := Exact(ratio.R{Neg: neg, Num: n, Den: d}, mode); f != wantF || g != wantG {
			t.Fatalf("Exact of %t, %v, %v, mode %d: %x, %d, not %x, %d", neg, num, den, mode, f, g, wantF, wantG)
		}
	}
}

// TestFracAtTheEnds: numbers that are too great or too small for floats by little and by much.
func TestFracAtTheEnds(t *testing.T) {
	s := stream(5)
	for _, power := range []int{1023, 1024, 1025, 1074, 1075, 1076, 1137, 1138, 1199, 1200, 1201, 1202, 1300, 4999, 5001, 9000} {
		for range 3 {
			a, b := s.big(60), s.big(60)
			long := new(big.Int).Lsh(a, uint(power-a.BitLen()+b.BitLen()))
			checkFrac(t, s.bool(), long, b)
			checkFrac(t, s.bool(), b, long)
		}
	}
}

// TestFracOfLong: parts that are as long as a Nat may be shifted to, or longer.
func TestFracOfLong(t *testing.T) {
	s := stream(6)
	for _, size := range []int{65400, 65472, 65473, 65535, 65536, 65537, 66000, 200000} {
		for _, less := range []int{-1074, -64, 0, 1, 63, 64, 1000} {
			checkLong(t, &s, size, size-less)
			checkLong(t, &s, size-less, size)
		}
		checkLong(t, &s, size, 10)
		checkLong(t, &s, 10, size)
	}
}

// checkLong holds Frac against the library's quotient; to hold it against the definition would take too long.
func checkLong(t *testing.T, s *stream, sizeA, sizeB int) {
	t.Helper()
	num, den := s.big(sizeA), s.big(sizeB)
	x := new(big.Float).SetPrec(53).SetMode(big.ToZero)
	x.Quo(new(big.Float).SetInt(num), new(big.Float).SetInt(den))
	exp := x.MantExp(nil)
	f, g := Frac(false, natOf(num), natOf(den), api.Down)
	switch {
	case exp > 1024:
		if f != greatest || g != over {
			t.Fatalf("%d bits by %d: %x, %d", sizeA, sizeB, f, g)
		}
	case exp < -1074:
		if f != 0 || g != under {
			t.Fatalf("%d bits by %d: %x, %d", sizeA, sizeB, f, g)
		}
	case exp > -1022:
		y, _ := x.Float64()
		if f != bits(y) || g != inexact {
			t.Fatalf("%d bits by %d: %x, %d, not %x", sizeA, sizeB, f, g, bits(y))
		}
	}
}

func TestUlp(t *testing.T) {
	for _, x := range [][2]api.Float{
		{0, 1},
		{1, 1},
		{0x000fffffffffffff, 1},
		{0x0010000000000000, 1},
		{0x001fffffffffffff, 1},
		{0x0020000000000000, 2},
		{0x0350000000000000, 0x0010000000000000},
		{0x0340000000000000, 0x0008000000000000},
		{one, bits(0x1p-52)},
		{one - 1, bits(0x1p-53)},
		{bits(0x1p52), one},
		{bits(1 << 53), bits(2)},
		{greatest, bits(0x1p971)},
		{plusInf, 0x7ff8000000000000},
		{0x7ff0000000000001, 0x7ff8000000000000},
		{0x7ff8000000000000, 0x7ff8000000000000},
		{0x7fffffffffffffff, 0x7ff8000000000000},
	} {
		if Ulp(x[0]) != x[1] || Ulp(x[0]|minus) != x[1] {
			t.Errorf("Ulp(%x) = %x, and %x with a sign, not %x", x[0], Ulp(x[0]), Ulp(x[0]|minus), x[1])
		}
	}
	s := stream(7)
	for range 20000 {
		f := s.float()
		if !isFinite(f) {
			continue
		}
		// The float with the next greater magnitude is one unit on; from the greatest one the unit is that of the one before it.
		size := min(f&^minus, greatest-1)
		if got, want := Ulp(f), bits(machine(size+1)-machine(size)); got != want {
			t.Fatalf("Ulp(%x) = %x, not %x", f, got, want)
		}
	}
}
