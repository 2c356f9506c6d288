package conv

import (
	"math"
	"testing"

	"flyball/api"
)

type answer struct {
	f api.Float
	g api.Flags
}

// inModes are the answers in the modes Near, Up and Down.
type inModes [3]answer

func (a inModes) in(mode api.Mode) answer {
	if mode == api.Up || mode == api.Down {
		return a[mode]
	}
	return a[0]
}

func same(f api.Float, g api.Flags) inModes { return inModes{{f, g}, {f, g}, {f, g}} }

// between are the answers for a number between two floats, given the one where the mode Near goes.
func between(near, up, down float64) inModes {
	return inModes{{bits(near), api.Inexact}, {bits(up), api.Inexact}, {bits(down), api.Inexact}}
}

func TestFromInt(t *testing.T) {
	const two53, two63 = 1 << 53, 0x1p63
	for _, x := range []struct {
		x    int64
		want inModes
	}{
		{0, same(0, 0)},
		{1, same(one, 0)},
		{-1, same(one|minus, 0)},
		{-7, same(bits(-7), 0)},
		{math.MaxInt32, same(0x41dfffffffc00000, 0)},
		{math.MinInt32, same(0xc1e0000000000000, 0)},
		{two53 - 1, same(bits(two53-1), 0)},
		{two53, same(bits(two53), 0)},
		{two53 + 1, between(two53, two53+2, two53)},
		{two53 + 2, same(bits(two53+2), 0)},
		{two53 + 3, between(two53+4, two53+4, two53+2)},
		{-two53 - 1, between(-two53, -two53, -two53-2)},
		{-two53 - 3, between(-two53-4, -two53-2, -two53-4)},
		{2*two53 + 1, between(2*two53, 2*two53+4, 2*two53)},
		{2*two53 + 3, between(2*two53+4, 2*two53+4, 2*two53)},
		{1 << 62, same(bits(0x1p62), 0)},
		{math.MaxInt64, between(two63, two63, two63-1024)},
		{math.MaxInt64 - 511, between(two63, two63, two63-1024)},
		{math.MaxInt64 - 512, between(two63-1024, two63, two63-1024)},
		{math.MaxInt64 - 1023, same(bits(two63-1024), 0)},
		{math.MinInt64, same(0xc3e0000000000000, 0)},
		{math.MinInt64 + 1, between(-two63, -two63+1024, -two63)},
	} {
		for _, mode := range anyMode {
			if f, g := FromInt(x.x, mode); (answer{f, g}) != x.want.in(mode) {
				t.Errorf("%d, mode %d: %x with flags %d, not %x", x.x, mode, f, g, x.want.in(mode))
			}
		}
	}
}

type integer struct {
	x int64
	g api.Flags
}

type toIntCase struct {
	f    api.Float
	want integer
}

var (
	inexactZero = integer{0, api.Inexact}
	invalid     = integer{0, api.Invalid}
)

// bothInts are cases whose answers are the same for 32 and for 64 bits.
func bothInts() []toIntCase {
	return []toIntCase{
		{0, integer{0, 0}},
		{minus, integer{0, 0}},
		{one, integer{1, 0}},
		{one | minus, integer{-1, 0}},
		{one - 1, inexactZero},
		{one - 1 | minus, inexactZero},
		{one + 1, integer{1, api.Inexact}},
		{bits(0.5), inexactZero},
		{bits(-0.5), inexactZero},
		{bits(1.75), integer{1, api.Inexact}},
		{bits(-1.75), integer{-1, api.Inexact}},
		{bits(2) - 1, integer{1, api.Inexact}},
		{bits(2.5), integer{2, api.Inexact}},
		{bits(-3.5), integer{-3, api.Inexact}},
		{1, inexactZero},
		{1 | minus, inexactZero},
		{normal, inexactZero},
		{normal - 1 | minus, inexactZero},
		{bits(2147483647), integer{2147483647, 0}},
		{bits(2147483647.5), integer{2147483647, api.Inexact}},
		{bits(2147483648) - 1, integer{2147483647, api.Inexact}},
		{bits(-2147483648), integer{-2147483648, 0}},
		{bits(-2147483648.5), integer{-2147483648, api.Inexact}},
		{bits(-2147483649) - 1, integer{-2147483648, api.Inexact}},
		{greatest, invalid},
		{greatest | minus, invalid},
		{bits(1e300), invalid},
		{bits(0x1p64), invalid},
		{bits(0x1p128), invalid},
		{bits(-0x1.8p128), invalid},
		{plusInf, invalid},
		{minusInf, invalid},
		{quiet, invalid},
		{quiet | minus, invalid},
		{plusInf + 1, invalid},
		{minusInf + 1, invalid},
		{math.MaxUint64, invalid},
	}
}

func checkToInt(t *testing.T, what string, do func(api.Float) (int64, api.Flags), cases []toIntCase) {
	t.Helper()
	for _, x := range cases {
		if y, g := do(x.f); (integer{y, g}) != x.want {
			t.Errorf("%s of %x: %d with flags %d, not %d", what, x.f, y, g, x.want)
		}
	}
}

// int32As is ToInt32 with the type of ToInt64.
func int32As(f api.Float) (int64, api.Flags) {
	x, g := ToInt32(f)
	return int64(x), g
}

func TestToInt32(t *testing.T) {
	checkToInt(t, "ToInt32", int32As, bothInts())
	checkToInt(t, "ToInt32", int32As, []toIntCase{
		{bits(2147483648), invalid},
		{bits(2147483648.5), invalid},
		{bits(-2147483649), invalid},
		{bits(-2147483649) + 1, invalid},
		{bits(4294967296), invalid},
		{bits(-4294967297), invalid},
		{bits(1 << 53), invalid},
		{bits(-0x1p63), invalid},
	})
}

func TestToInt64(t *testing.T) {
	checkToInt(t, "ToInt64", ToInt64, bothInts())
	checkToInt(t, "ToInt64", ToInt64, []toIntCase{
		{bits(2147483648), integer{2147483648, 0}},
		{bits(-2147483649.5), integer{-2147483649, api.Inexact}},
		{bits(0x1p51 + 0.5), integer{1 << 51, api.Inexact}},
		{bits(-0x1p52 + 0.5), integer{-1<<52 + 1, api.Inexact}},
		{bits(1<<53 - 1), integer{1<<53 - 1, 0}},
		{bits(1<<53 + 2), integer{1<<53 + 2, 0}},
		{bits(0x1p63) - 1, integer{math.MaxInt64 - 1023, 0}},
		{bits(-0x1p63) - 1, integer{math.MinInt64 + 1024, 0}},
		{bits(-0x1p63), integer{math.MinInt64, 0}},
		{bits(-0x1p63) + 1, invalid},
		{bits(0x1p63), invalid},
		{bits(0x1p63) + 1, invalid},
	})
}

func TestWhole(t *testing.T) {
	negZero := math.Copysign(0, -1)
	for _, x := range []struct {
		f    float64
		want inModes
	}{
		{0.5, between(0, 1, 0)},
		{-0.5, between(negZero, negZero, -1)},
		{1.5, between(2, 2, 1)},
		{-1.5, between(-2, -1, -2)},
		{2.5, between(2, 3, 2)},
		{-2.5, between(-2, -2, -3)},
		{3.5, between(4, 4, 3)},
		{0.25, between(0, 1, 0)},
		{-0.75, between(-1, negZero, -1)},
		{math.Nextafter(0.5, 0), between(0, 1, 0)},
		{math.Nextafter(0.5, 1), between(1, 1, 0)},
		{math.Nextafter(2.5, 3), between(3, 3, 2)},
		{math.Nextafter(3.5, 3), between(3, 4, 3)},
		{math.Nextafter(1, 0), between(1, 1, 0)},
		{math.Nextafter(-1, 0), between(-1, negZero, -1)},
		{0x1p-1074, between(0, 1, 0)},
		{-0x1p-1074, between(negZero, negZero, -1)},
		{0x1p-1022, between(0, 1, 0)},
		{-0x1.fffffffffffffp-1, between(-1, negZero, -1)},
		{2147483647.5, between(2147483648, 2147483648, 2147483647)},
		{0x1p51 + 0.5, between(0x1p51, 0x1p51+1, 0x1p51)},
		{0x1p51 + 1.5, between(0x1p51+2, 0x1p51+2, 0x1p51+1)},
		{-0x1p51 - 0.5, between(-0x1p51, -0x1p51, -0x1p51-1)},
		{0x1p52 - 0.5, between(0x1p52, 0x1p52, 0x1p52-1)},
		{0x1p52 - 1.5, between(0x1p52-2, 0x1p52-1, 0x1p52-2)},
		{-0x1p52 + 0.5, between(-0x1p52, -0x1p52+1, -0x1p52)},
	} {
		checkWhole(t, bits(x.f), x.want)
	}
}

func TestWholeUnchanged(t *testing.T) {
	for _, f := range []api.Float{
		0, one, bits(2), bits(7), bits(1000000), bits(0x1p51 + 1), bits(0x1p52 - 1), bits(0x1p52), bits(0x1p52 + 1),
		bits(1<<53 - 1), bits(1 << 53), bits(0x1p63), bits(0x1p127), bits(0x1p128), bits(1e300), greatest, plusInf,
	} {
		checkWhole(t, f, same(f, 0))
		checkWhole(t, f|minus, same(f|minus, 0))
	}
}

func TestWholeOfNaN(t *testing.T) {
	for _, f := range []api.Float{quiet, quiet + 1, quiet | minus, plusInf + 1, minusInf + 1, minus - 1, math.MaxUint64} {
		checkWhole(t, f, same(quiet, 0))
	}
}

func checkWhole(t *testing.T, f api.Float, want inModes) {
	t.Helper()
	for _, mode := range anyMode {
		if w, g := Whole(f, mode); (answer{w, g}) != want.in(mode) {
			t.Errorf("%x, mode %d: %x with flags %d, not %x", f, mode, w, g, want.in(mode))
		}
	}
}
