package soft

import (
	"math"
	"slices"
	"testing"

	"flyball/api"
)

type binary func(a, b api.Float, mode api.Mode) (api.Float, api.Flags)

// operation is one of the package with the one that it is held against.
type operation struct {
	name string
	got  binary
	want binary
}

func operations() []operation {
	return []operation{{"+", Add, wantAdd}, {"-", Sub, wantSub}, {"*", Mul, wantMul}, {"/", Div, wantDiv}}
}

type answer struct {
	f api.Float
	g api.Flags
}

// inModes are the answers in the modes Near, Up and Down.
type inModes [3]answer

func same(f api.Float, g api.Flags) inModes { return inModes{{f, g}, {f, g}, {f, g}} }

// nearUp and nearDown are the answers for a number between two floats, by where the mode Near goes.
func nearUp(down, up api.Float, g api.Flags) inModes { return inModes{{up, g}, {up, g}, {down, g}} }

func nearDown(down, up api.Float, g api.Flags) inModes {
	return inModes{{down, g}, {up, g}, {down, g}}
}

type binaryCase struct {
	what string
	a, b api.Float
	want inModes
}

func checkBinary(t *testing.T, do binary, cases []binaryCase) {
	t.Helper()
	for _, x := range cases {
		for _, mode := range anyMode {
			want := x.want[0]
			if mode == api.Up || mode == api.Down {
				want = x.want[mode]
			}
			if f, g := do(x.a, x.b, mode); f != want.f || g != want.g {
				t.Errorf("%s, mode %d: %x with flags %d, not %x with flags %d", x.what, mode, f, g, want.f, want.g)
			}
		}
	}
}

func TestAdd(t *testing.T) {
	least, tiny := api.Float(1), bits(0x1p-60)
	checkBinary(t, Add, []binaryCase{
		{"1 + 2", one, bits(2), same(bits(3), 0)},
		{"1 - 3", one, bits(-3), same(bits(-2), 0)},
		{"0.1 + 0.2", bits(0.1), bits(0.2), nearUp(0x3fd3333333333333, 0x3fd3333333333334, inexact)},
		{"1 + 2^-53", one, bits(0x1p-53), nearDown(one, one+1, inexact)},
		{"1 and a bit, + 2^-53", one + 1, bits(0x1p-53), nearUp(one+1, one+2, inexact)},
		{"1 + more than 2^-53", one, bits(0x1p-53) + 1, nearUp(one, one+1, inexact)},
		{"1 + less than 2^-53", one, bits(0x1p-53) - 1, nearDown(one, one+1, inexact)},
		{"1 + the least", one, least, nearDown(one, one+1, inexact)},
		{"1 - the least", one, least | minus, nearUp(one-1, one, inexact)},
		{"-1 + the least", one | minus, least, nearDown(one|minus, one-1|minus, inexact)},
		{"-1 - the least", one | minus, least | minus, nearUp(one+1|minus, one|minus, inexact)},
		{"1 - 2^-54", one, bits(-0x1p-54), nearUp(one-1, one, inexact)},
		{"1 - more than 2^-54", one, bits(-0x1p-54) + 1, nearDown(one-1, one, inexact)},
		{"1 - less than 2^-54", one, bits(-0x1p-54) - 1, nearUp(one-1, one, inexact)},
		{"1 + 2^-60", one, tiny, nearDown(one, one+1, inexact)},
		{"2^-60 - 1", tiny, one | minus, nearDown(one|minus, one-1|minus, inexact)},
		{"cancelled bits", one + 1, one | minus, same(bits(0x1p-52), 0)},
		{"cancelled over a power", one, one - 1 | minus, same(bits(0x1p-53), 0)},
	})
}

func TestAddAtTheEnds(t *testing.T) {
	half := bits(0x1p970) // half of the unit of the greatest floats
	huge := inModes{{plusInf, over}, {plusInf, over}, {greatest, over}}
	checkBinary(t, Add, []binaryCase{
		{"least + least", 1, 1, same(2, 0)},
		{"subnormal to normal", normal - 1, 1, same(normal, 0)},
		{"normal to subnormal", normal, 1 | minus, same(normal-1, 0)},
		{"normal and a bit, - normal", normal + 1, normal | minus, same(1, 0)},
		{"greatest + its half unit", greatest, half, inModes{{plusInf, over}, {plusInf, over}, {greatest, inexact}}},
		{"greatest + less", greatest, half - 1, inModes{{greatest, inexact}, {plusInf, over}, {greatest, inexact}}},
		{"greatest + the least", greatest, 1, inModes{{greatest, inexact}, {plusInf, over}, {greatest, inexact}}},
		{"greatest + its unit", greatest, bits(0x1p971), huge},
		{"greatest + greatest", greatest, greatest, huge},
		{"-greatest - greatest", greatest | minus, greatest | minus, inModes{{minusInf, over}, {greatest | minus, over}, {minusInf, over}}},
		{"greatest - the least", greatest, 1 | minus, nearUp(greatest-1, greatest, inexact)},
	})
}

// downZero are the answers of a sum that is 0, but not of two zeros of one sign.
func downZero() inModes { return inModes{{0, 0}, {0, 0}, {minus, 0}} }

func TestAddZeros(t *testing.T) {
	checkBinary(t, Add, []binaryCase{
		{"+0 + +0", 0, 0, same(0, 0)},
		{"-0 + -0", minus, minus, same(minus, 0)},
		{"+0 + -0", 0, minus, downZero()},
		{"-0 + +0", minus, 0, downZero()},
		{"1 - 1", one, one | minus, downZero()},
		{"-1 + 1", one | minus, one, downZero()},
		{"least - least", 1, 1 | minus, downZero()},
		{"greatest - greatest", greatest, greatest | minus, downZero()},
		{"+0 + 1", 0, one, same(one, 0)},
		{"-1 + -0", one | minus, minus, same(one|minus, 0)},
		{"-0 + least", minus, 1, same(1, 0)},
		{"-least + 0", 1 | minus, 0, same(1|minus, 0)},
		{"greatest + -0", greatest, minus, same(greatest, 0)},
	})
}

func TestAddInfinities(t *testing.T) {
	checkBinary(t, Add, []binaryCase{
		{"inf + inf", plusInf, plusInf, same(plusInf, 0)},
		{"-inf + -inf", minusInf, minusInf, same(minusInf, 0)},
		{"inf + -inf", plusInf, minusInf, same(quiet, api.Invalid)},
		{"-inf + inf", minusInf, plusInf, same(quiet, api.Invalid)},
		{"inf - greatest", plusInf, greatest | minus, same(plusInf, 0)},
		{"greatest + -inf", greatest, minusInf, same(minusInf, 0)},
		{"-0 + inf", minus, plusInf, same(plusInf, 0)},
	})
}

func TestSub(t *testing.T) {
	checkBinary(t, Sub, []binaryCase{
		{"1 - 1", one, one, downZero()},
		{"3 - 1", bits(3), one, same(bits(2), 0)},
		{"1 - 3", one, bits(3), same(bits(-2), 0)},
		{"1 - -2", one, bits(-2), same(bits(3), 0)},
		{"1 - 2^-1074", one, 1, nearUp(one-1, one, inexact)},
		{"+0 - +0", 0, 0, downZero()},
		{"-0 - -0", minus, minus, downZero()},
		{"-0 - +0", minus, 0, same(minus, 0)},
		{"+0 - -0", 0, minus, same(0, 0)},
		{"0 - 1", 0, one, same(one|minus, 0)},
		{"inf - inf", plusInf, plusInf, same(quiet, api.Invalid)},
		{"-inf - -inf", minusInf, minusInf, same(quiet, api.Invalid)},
		{"inf - -inf", plusInf, minusInf, same(plusInf, 0)},
		{"1 - inf", one, plusInf, same(minusInf, 0)},
		{"greatest - -greatest", greatest, greatest | minus, inModes{{plusInf, over}, {plusInf, over}, {greatest, over}}},
	})
}

func TestMul(t *testing.T) {
	root := bits(math.Sqrt2)
	checkBinary(t, Mul, []binaryCase{
		{"2 * 3", bits(2), bits(3), same(bits(6), 0)},
		{"-2 * 3", bits(-2), bits(3), same(bits(-6), 0)},
		{"2 * -3", bits(2), bits(-3), same(bits(-6), 0)},
		{"-2 * -3", bits(-2), bits(-3), same(bits(6), 0)},
		{"root of 2, squared", root, root, nearUp(bits(2), bits(2)+1, inexact)},
		{"1 and a bit, squared", one + 1, one + 1, nearDown(one+2, one+3, inexact)},
		{"below 1, squared", one - 1, one - 1, nearDown(one-2, one-1, inexact)},
		{"a tie to the even one", one + 1, bits(1.5), nearUp(bits(1.5)+1, bits(1.5)+2, inexact)},
		{"a negative tie", one + 1 | minus, bits(1.5), nearDown(bits(1.5)+2|minus, bits(1.5)+1|minus, inexact)},
		{"a least times a half", 1, bits(0.5), nearDown(0, 1, under)},
		{"a least times minus a half", 1, bits(-0.5), nearUp(1|minus, minus, under)},
		{"3 leasts times a half", 3, bits(0.5), nearUp(1, 2, under)},
		{"more than a half", 1, bits(0.5) + 1, nearUp(0, 1, under)},
		{"least times least", 1, 1, nearDown(0, 1, under)},
		{"least times minus least", 1, 1 | minus, nearUp(1|minus, minus, under)},
		{"least normal times a half", normal, bits(0.5), same(1<<51, 0)},
		{"least normal times below 1", normal, one - 1, nearUp(normal-1, normal, under)},
		{"least times 2^1023", 1, bits(0x1p1023), same(bits(0x1p-51), 0)},
	})
}

func TestMulGreat(t *testing.T) {
	huge := inModes{{plusInf, over}, {plusInf, over}, {greatest, over}}
	checkBinary(t, Mul, []binaryCase{
		{"greatest times 1", greatest, one, same(greatest, 0)},
		{"greatest times -1", greatest, one | minus, same(greatest|minus, 0)},
		{"greatest times above 1", greatest, one + 1, huge},
		{"greatest times 2", greatest, bits(2), huge},
		{"greatest times -2", greatest, bits(-2), inModes{{minusInf, over}, {greatest | minus, over}, {minusInf, over}}},
		{"greatest, squared", greatest, greatest, huge},
		{"2^512, squared", bits(0x1p512), bits(0x1p512), huge},
		{"near to 2^1024", bits(0x1.0000000000001p512), bits(0x1.ffffffffffffep511), inModes{{plusInf, over}, {plusInf, over}, {greatest, inexact}}},
	})
}

func TestMulZerosAndInfinities(t *testing.T) {
	checkBinary(t, Mul, []binaryCase{
		{"+0 * +0", 0, 0, same(0, 0)},
		{"-0 * +0", minus, 0, same(minus, 0)},
		{"+0 * -0", 0, minus, same(minus, 0)},
		{"-0 * -0", minus, minus, same(0, 0)},
		{"0 * -1", 0, one | minus, same(minus, 0)},
		{"-greatest * 0", greatest | minus, 0, same(minus, 0)},
		{"-0 * -least", minus, 1 | minus, same(0, 0)},
		{"0 * inf", 0, plusInf, same(quiet, api.Invalid)},
		{"inf * 0", plusInf, 0, same(quiet, api.Invalid)},
		{"-0 * -inf", minus, minusInf, same(quiet, api.Invalid)},
		{"-inf * 0", minusInf, 0, same(quiet, api.Invalid)},
		{"inf * inf", plusInf, plusInf, same(plusInf, 0)},
		{"inf * -inf", plusInf, minusInf, same(minusInf, 0)},
		{"-inf * -inf", minusInf, minusInf, same(plusInf, 0)},
		{"inf * least", plusInf, 1, same(plusInf, 0)},
		{"-1 * inf", one | minus, plusInf, same(minusInf, 0)},
	})
}

func TestDiv(t *testing.T) {
	checkBinary(t, Div, []binaryCase{
		{"6 / 3", bits(6), bits(3), same(bits(2), 0)},
		{"-6 / 3", bits(-6), bits(3), same(bits(-2), 0)},
		{"6 / -3", bits(6), bits(-3), same(bits(-2), 0)},
		{"-6 / -3", bits(-6), bits(-3), same(bits(2), 0)},
		{"1 / 3", one, bits(3), nearDown(0x3fd5555555555555, 0x3fd5555555555556, inexact)},
		{"-1 / 3", one | minus, bits(3), nearUp(0xbfd5555555555556, 0xbfd5555555555555, inexact)},
		{"1 / 5", one, bits(5), nearUp(0x3fc9999999999999, 0x3fc999999999999a, inexact)},
		{"1 / above 1", one, one + 1, nearDown(one-2, one-1, inexact)},
		{"1 / below 1", one, one - 1, nearUp(one, one+1, inexact)},
		{"least / 2", 1, bits(2), nearDown(0, 1, under)},
		{"least / -2", 1, bits(-2), nearUp(1|minus, minus, under)},
		{"3 leasts / 2", 3, bits(2), nearUp(1, 2, under)},
		{"least / below 2", 1, bits(2) - 1, nearUp(0, 1, under)},
		{"least / greatest", 1, greatest, nearDown(0, 1, under)},
		{"least / least", 1, 1, same(one, 0)},
		{"3 leasts / greatest subnormal", 3, normal - 1, nearUp(bits(0x1.8p-51)+1, bits(0x1.8p-51)+2, inexact)},
		{"least / 3 leasts", 1, 3, nearDown(0x3fd5555555555555, 0x3fd5555555555556, inexact)},
		{"least normal / 2", normal, bits(2), same(1<<51, 0)},
		{"greatest / 1", greatest, one, same(greatest, 0)},
		{"greatest / greatest", greatest, greatest, same(one, 0)},
	})
}

func TestDivGreat(t *testing.T) {
	huge := inModes{{plusInf, over}, {plusInf, over}, {greatest, over}}
	checkBinary(t, Div, []binaryCase{
		{"greatest / below 1", greatest, one - 1, huge},
		{"greatest / a half", greatest, bits(0.5), huge},
		{"-greatest / a half", greatest | minus, bits(0.5), inModes{{minusInf, over}, {greatest | minus, over}, {minusInf, over}}},
		{"greatest / least", greatest, 1, huge},
		{"1 / least", one, 1, huge},
		{"1 / 2^-1024", one, bits(0x1p-1024), huge},
		{"below 1 / 2^-1024", one - 1, bits(0x1p-1024), same(greatest, 0)},
	})
}

func TestDivZerosAndInfinities(t *testing.T) {
	checkBinary(t, Div, []binaryCase{
		{"0 / 0", 0, 0, same(quiet, api.Invalid)},
		{"-0 / 0", minus, 0, same(quiet, api.Invalid)},
		{"0 / -0", 0, minus, same(quiet, api.Invalid)},
		{"inf / inf", plusInf, plusInf, same(quiet, api.Invalid)},
		{"-inf / inf", minusInf, plusInf, same(quiet, api.Invalid)},
		{"inf / -inf", plusInf, minusInf, same(quiet, api.Invalid)},
		{"1 / 0", one, 0, same(plusInf, api.DivZero)},
		{"-1 / 0", one | minus, 0, same(minusInf, api.DivZero)},
		{"1 / -0", one, minus, same(minusInf, api.DivZero)},
		{"-least / -0", 1 | minus, minus, same(plusInf, api.DivZero)},
		{"greatest / 0", greatest, 0, same(plusInf, api.DivZero)},
		{"inf / 0", plusInf, 0, same(plusInf, 0)},
		{"inf / -0", plusInf, minus, same(minusInf, 0)},
		{"-inf / 0", minusInf, 0, same(minusInf, 0)},
		{"-inf / -1", minusInf, one | minus, same(plusInf, 0)},
		{"inf / least", plusInf, 1, same(plusInf, 0)},
		{"inf / -greatest", plusInf, greatest | minus, same(minusInf, 0)},
		{"0 / 1", 0, one, same(0, 0)},
		{"-0 / 1", minus, one, same(minus, 0)},
		{"0 / -least", 0, 1 | minus, same(minus, 0)},
		{"-0 / -greatest", minus, greatest | minus, same(0, 0)},
		{"0 / inf", 0, plusInf, same(0, 0)},
		{"0 / -inf", 0, minusInf, same(minus, 0)},
		{"1 / inf", one, plusInf, same(0, 0)},
		{"-1 / inf", one | minus, plusInf, same(minus, 0)},
		{"greatest / -inf", greatest, minusInf, same(minus, 0)},
		{"-least / -inf", 1 | minus, minusInf, same(0, 0)},
	})
}

func TestSqrt(t *testing.T) {
	var cases []binaryCase
	for _, x := range []struct {
		what string
		a    api.Float
		want inModes
	}{
		{"2", bits(2), nearUp(0x3ff6a09e667f3bcc, 0x3ff6a09e667f3bcd, inexact)},
		{"4", bits(4), same(bits(2), 0)},
		{"9", bits(9), same(bits(3), 0)},
		{"1", one, same(one, 0)},
		{"a quarter", bits(0.25), same(bits(0.5), 0)},
		{"a half", bits(0.5), nearUp(0x3fe6a09e667f3bcc, 0x3fe6a09e667f3bcd, inexact)},
		{"above 1", one + 1, nearDown(one, one+1, inexact)},
		{"above 1 by two", one + 2, nearUp(one, one+1, inexact)},
		{"below 1", one - 1, nearDown(one-1, one, inexact)},
		{"below 4", bits(4) - 1, nearDown(bits(2)-1, bits(2), inexact)},
		{"(2^26 + 1)^2", bits((1<<26 + 1) * (1<<26 + 1)), same(bits(1<<26+1), 0)},
		{"the least", 1, same(bits(0x1p-537), 0)},
		{"2 leasts", 2, nearUp(bits(math.Sqrt2*0x1p-537)-1, bits(math.Sqrt2*0x1p-537), inexact)},
		{"the least normal", normal, same(bits(0x1p-511), 0)},
		{"the greatest subnormal", normal - 1, nearUp(bits(0x1p-511)-2, bits(0x1p-511)-1, inexact)},
		{"the greatest", greatest, nearDown(bits(0x1p512)-1, bits(0x1p512), inexact)},
		{"+0", 0, same(0, 0)},
		{"-0", minus, same(minus, 0)},
		{"inf", plusInf, same(plusInf, 0)},
		{"-inf", minusInf, same(quiet, api.Invalid)},
		{"-1", one | minus, same(quiet, api.Invalid)},
		{"-least", 1 | minus, same(quiet, api.Invalid)},
		{"-greatest", greatest | minus, same(quiet, api.Invalid)},
		{"a NaN", quiet, same(quiet, 0)},
		{"a negative NaN", quiet | minus, same(quiet, 0)},
		{"a signalling NaN", plusInf + 1, same(quiet, 0)},
		{"a negative signalling NaN", minusInf + 1, same(quiet, 0)},
	} {
		cases = append(cases, binaryCase{"the root of " + x.what, x.a, 0, x.want})
	}
	checkBinary(t, func(a, _ api.Float, mode api.Mode) (api.Float, api.Flags) { return Sqrt(a, mode) }, cases)
}

// TestNaN: with a NaN the result is the quiet one, without flags, even where the other operand makes an operation invalid or divides by zero.
func TestNaN(t *testing.T) {
	nans := []api.Float{quiet, quiet + 1, plusInf + 1, minus - 1, quiet | minus, minusInf + 1, math.MaxUint64}
	others := append([]api.Float{0, minus, 1, 1 | minus, one, one | minus, greatest, plusInf, minusInf}, nans...)
	for _, op := range operations() {
		for _, nan := range nans {
			for _, other := range others {
				for _, mode := range anyMode {
					if f, g := op.got(nan, other, mode); f != quiet || g != 0 {
						t.Errorf("%x %s %x, mode %d: %x, %d", nan, op.name, other, mode, f, g)
					}
					if f, g := op.got(other, nan, mode); f != quiet || g != 0 {
						t.Errorf("%x %s %x, mode %d: %x, %d", other, op.name, nan, mode, f, g)
					}
				}
			}
		}
	}
}

func TestSum(t *testing.T) {
	tie := bits(0x1p-53)
	for _, x := range []struct {
		what string
		l    []api.Float
		want [3]api.Float // in the modes Near, Up and Down
	}{
		{"nothing", nil, [3]api.Float{}},
		{"an empty list", []api.Float{}, [3]api.Float{}},
		{"+0", []api.Float{0}, [3]api.Float{}},
		{"-0", []api.Float{minus}, [3]api.Float{0, 0, minus}},
		{"two of -0", []api.Float{minus, minus}, [3]api.Float{0, 0, minus}},
		{"one", []api.Float{one}, [3]api.Float{one, one, one}},
		{"1, 2, 3", []api.Float{one, bits(2), bits(3)}, [3]api.Float{bits(6), bits(6), bits(6)}},
		{"1 first", []api.Float{one, tie, tie}, [3]api.Float{one, one + 2, one}},
		{"1 last", []api.Float{tie, tie, one}, [3]api.Float{one + 1, one + 1, one + 1}},
		{"1 between", []api.Float{tie, one, tie}, [3]api.Float{one, one + 2, one}},
		{"what cancels", []api.Float{one, one | minus}, [3]api.Float{0, 0, minus}},
		{"what cancels late", []api.Float{greatest, one, greatest | minus}, [3]api.Float{0, plusInf, minus}},
		{"beyond all and back", []api.Float{greatest, greatest, greatest | minus}, [3]api.Float{plusInf, plusInf, minus}},
		{"the least ones", []api.Float{1, 1, 1 | minus}, [3]api.Float{1, 1, 1}},
		{"an infinity", []api.Float{one, minusInf, one}, [3]api.Float{minusInf, minusInf, minusInf}},
		{"both infinities", []api.Float{plusInf, minusInf, one}, [3]api.Float{quiet, quiet, quiet}},
		{"a NaN", []api.Float{one, minusInf + 1, one}, [3]api.Float{quiet, quiet, quiet}},
		{"a NaN alone", []api.Float{math.MaxUint64}, [3]api.Float{quiet, quiet, quiet}},
	} {
		for _, mode := range anyMode {
			want := x.want[0]
			if mode == api.Up || mode == api.Down {
				want = x.want[mode]
			}
			if f := Sum(mode, x.l...); f != want {
				t.Errorf("the sum of %s, mode %d: %x, not %x", x.what, mode, f, want)
			}
		}
	}
}

// TestSumOneByOne holds Sum against Add, and sees that the list stays as it was.
func TestSumOneByOne(t *testing.T) {
	s := stream(31)
	for range 3000 {
		l := []api.Float{s.float()}
		for range s.below(8) {
			l = append(l, s.near(l[0], 60))
		}
		mode, before := anyMode[s.below(len(anyMode))], slices.Clone(l)
		want := api.Float(0)
		for _, f := range l {
			want, _ = wantAdd(want, f, mode)
		}
		if f := Sum(mode, l...); f != want {
			t.Fatalf("the sum of %x, mode %d: %x, not %x", l, mode, f, want)
		}
		if !slices.Equal(l, before) {
			t.Fatalf("the list %x was changed to %x", before, l)
		}
	}
}
