package deci

import (
	"math"
	"math/big"
	"strings"
	"testing"

	"flyball/api"
)

func zeros(n int) string { return strings.Repeat("0", n) }

func nines(n int) string { return strings.Repeat("9", n) }

func TestParse(t *testing.T) {
	for s, want := range map[string]api.Float{
		"0.1":     0x3fb999999999999a,
		"1e-400":  0,
		"0":       0,
		"0.0":     0,
		"00":      0,
		"0e5":     0,
		"1":       floatOf(1),
		"007":     floatOf(7),
		"1.50":    floatOf(1.5),
		"123.456": floatOf(123.456),
		"1e5":     floatOf(100000),
		"1E5":     floatOf(100000),
		"1e+5":    floatOf(100000),
		"1E-5":    floatOf(0.00001),
		"1e05":    floatOf(100000),
		"1.5e1":   floatOf(15),
		"12.5e-1": floatOf(1.25),
		"0.001e3": floatOf(1),
		"1000e-3": floatOf(1),
		"1e23":    0x44b52d02c7e14af6,

		// Midway between two floats, and beside that.
		"9007199254740993":                                         floatOf(9007199254740992),
		"9007199254740995":                                         floatOf(9007199254740996),
		"9007199254740992.9999999":                                 floatOf(9007199254740992),
		"9007199254740993.0000001":                                 floatOf(9007199254740994),
		"9007199254740995.0000001":                                 floatOf(9007199254740996),
		"9007199254740994.9999999":                                 floatOf(9007199254740994),
		"1.00000000000000011102230246251565404236316680908203125":  floatOf(1),
		"1.00000000000000033306690738754696212708950042724609375":  floatOf(1) + 2,
		"9007199254740993." + zeros(382) + "1":                     floatOf(9007199254740994),
		"9007199254740995." + zeros(382) + "0":                     floatOf(9007199254740996),
		"9007199254740994." + nines(383):                           floatOf(9007199254740994),
		"99999999999999999999999." + nines(54):                     0x44b52d02c7e14af6,
		"100000000000000000000000." + zeros(54) + "1":              0x44b52d02c7e14af7,
		"100000000000000016777215." + nines(54):                    0x44b52d02c7e14af7,
		"100000000000000016777216":                                 0x44b52d02c7e14af8,
		"100000000000000008388608":                                 0x44b52d02c7e14af7,
		"100000000000000008388608." + zeros(100) + "1":             0x44b52d02c7e14af7,
		"0.500000000000000166533453693773481063544750213623046875": floatOf(0.5) + 2,
		"0.500000000000000055511151231257827021181583404541015625": floatOf(0.5),

		// The ends of the floats.
		"1.7976931348623157e308":  greatest,
		"1.7976931348623158e308":  greatest,
		"17976931348623157e292":   greatest,
		"2.2250738585072011e-308": normal - 1,
		"2.2250738585072014e-308": normal,
		"4.9e-324":                1,
		"5e-324":                  1,
		"2.4703282292062328e-324": 1,
		"2.4703282292062327e-324": 0,
		"7.4109846876186982e-324": 2,
		"7.4109846876186981e-324": 1,
		"1e-323":                  2,
	} {
		if f, e := Parse(s); f != want || e != api.OK {
			t.Errorf("%s: %x, %v, not %x", s, f, e, want)
		}
	}
}

// TestParseGreatest: what is midway between the greatest float and 2^1024 is too great, and what is less is not.
func TestParseGreatest(t *testing.T) {
	half := midway(greatest).Num()
	if f, e := Parse(half.String()); f != 0 || e != api.ErrDeciOver {
		t.Errorf("%s: %x, %v", half, f, e)
	}
	less := new(big.Int).Sub(half, big.NewInt(1)).String()
	for _, s := range []string{less, less + ".9", less + "." + nines(90), "0." + less + "e309"} {
		if f, e := Parse(s); f != greatest || e != api.OK {
			t.Errorf("%s: %x, %v", s, f, e)
		}
	}
}

func TestParseOver(t *testing.T) {
	for _, s := range []string{
		"1e309", "1E309", "1e+309", "10e308", "0.1e310", "1.7976931348623159e308", "17976931348623159e292", "2e308",
		"1e400", "1e999", "1e1000", "1e1001", "1e5000", "1e2147483648", "1e4294967296", "1e9223372036854775808", "1e18446744073709551616", "1e99999999999999999999",
		nines(400), "1e" + nines(398), "0." + zeros(300) + "1e" + nines(90), nines(390) + "e0",
	} {
		if f, e := Parse(s); f != 0 || e != api.ErrDeciOver {
			t.Errorf("%s: %x, %v", s, f, e)
		}
	}
}

// TestParseExponents: digits and exponents that are far, and make up for one another.
func TestParseExponents(t *testing.T) {
	for s, want := range map[string]api.Float{
		"1" + zeros(390) + "e-390":                  floatOf(1),
		"0." + zeros(390) + "1e391":                 floatOf(1),
		"0." + zeros(390) + "123e392":               floatOf(12.3),
		"0." + zeros(390) + "1e+389":                floatOf(0.01),
		zeros(399) + "7":                            floatOf(7),
		"7." + zeros(398):                           floatOf(7),
		"1e" + zeros(397) + "5":                     floatOf(100000),
		"1e-" + zeros(396) + "5":                    floatOf(0.00001),
		"1e-" + nines(397):                          0,
		nines(300) + "e-" + nines(90):               0,
		zeros(200) + "e" + nines(199):               0,
		"0." + zeros(200) + "e+" + nines(100):       0,
		"0e-" + nines(20):                           0,
		nines(300):                                  floatOf(1e300),
		"0." + zeros(398):                           0,
		"0." + zeros(397) + "1":                     0,
		"0." + zeros(390) + "5e67":                  1,
		"1" + zeros(390) + "e-713":                  2,
		"1" + zeros(390) + "e-714":                  0,
		"1e-2147483648":                             0,
		"1e-4294967296":                             0,
		"1e-9223372036854775808":                    0,
		"1e-18446744073709551616":                   0,
		"17976931348623157" + zeros(370) + "e-78":   greatest,
		"0." + zeros(370) + "17976931348623157e679": greatest,
	} {
		if f, e := Parse(s); f != want || e != api.OK {
			t.Errorf("%s: %x, %v, not %x", s, f, e, want)
		}
	}
}

func TestParseText(t *testing.T) {
	for _, s := range []string{
		"", ".5", "1.", "1e", ".", "e", "e5", ".e5", "1.e5", ".5e5", "1E", "1e+", "1e-", "1E+", "1e+-5", "1e--5", "1e++5", "1e5.0", "1e.5", "1e5e5", "1ee5", "1e5e", "1eE5",
		"1.2.3", "1..2", "-1", "+1", "-0.5", "--1", " 1", "1 ", "1\n", "\t1", "1 e5", "1e 5", "1 .5", "1. 5", "1_000", "1'000", "1,5", "0x1", "0x1p4", "1p4", "0b1", "1f", "1.5f", "a", "1a5", "1e5a",
		"inf", "nan", "Inf", "NaN", "infinity", "1\x00", "\x001", "1e5\x00", "\xff", "1\xff", "1e\xff5", "\u0661", "1.\u0665", "1e\u0665", "\uff11", "1e\u22125", "\u00b2", "/", ":", "1/", "1:", "1./", "1.:", "1e/", "1e:",
		nines(399) + "x", "1e" + nines(300) + "x", "x1e999", strings.Repeat(".", 400),
	} {
		if f, e := Parse(s); f != 0 || e != api.ErrDeciText {
			t.Errorf("%q: %x, %v", s, f, e)
		}
	}
}

// TestParseLong: 400 bytes may be read and 401 may not, whatever they are.
func TestParseLong(t *testing.T) {
	for _, s := range []string{zeros(401), nines(401), strings.Repeat("x", 401), "1e" + nines(399), "0." + zeros(399), zeros(400) + "1", strings.Repeat("1", 1<<16), strings.Repeat("\xff", 500)} {
		if f, e := Parse(s); f != 0 || e != api.ErrDeciLong {
			t.Errorf("%d bytes, %q ..: %x, %v", len(s), s[:10], f, e)
		}
	}
	for s, want := range map[string]api.Errno{zeros(400): api.OK, nines(400): api.ErrDeciOver, strings.Repeat("x", 400): api.ErrDeciText} {
		if f, e := Parse(s); f != 0 || e != want {
			t.Errorf("%q ..: %x, %v", s[:10], f, e)
		}
	}
}

func TestDigits(t *testing.T) {
	for _, x := range []struct {
		f    api.Float
		want sequence
	}{
		{floatOf(1), sequence{"1", 0}},
		{floatOf(0.1), sequence{"1", -1}},
		{floatOf(10), sequence{"1", 1}},
		{floatOf(1200), sequence{"12", 2}},
		{floatOf(-1200), sequence{"12", 2}},
		{floatOf(-0.25), sequence{"25", -2}},
		{floatOf(1.0 / 3), sequence{"3333333333333333", -16}},
		{floatOf(0.3), sequence{"3", -1}},
		{0x3fd3333333333334, sequence{"30000000000000004", -17}},
		{floatOf(1 << 53), sequence{"9007199254740992", 0}},
		{floatOf(1e21), sequence{"1", 21}},
		{floatOf(1e23), sequence{"1", 23}},
		{0x44b52d02c7e14af7, sequence{"10000000000000001", 7}},
		{floatOf(1.5e-7), sequence{"15", -8}},
		{greatest, sequence{"17976931348623157", 292}},
		{greatest | minus, sequence{"17976931348623157", 292}},
		{normal, sequence{"22250738585072014", -324}},
		{normal - 1, sequence{"2225073858507201", -323}},

		// Of several shortest ones the nearest: the least floats have room for many.
		{1, sequence{"5", -324}},
		{1 | minus, sequence{"5", -324}},
		{2, sequence{"1", -323}},
		{3, sequence{"15", -324}},
		{4, sequence{"2", -323}},
		{20, sequence{"1", -322}},

		// Two are equally near: the even one, whether it is the lower or the upper one.
		{floatOf(901222.22900390625), sequence{"9012222290039062", -10}},
		{floatOf(83446.502685546875), sequence{"8344650268554688", -11}},

		// Powers of two have less room below: the nearer one is not read as 2^-44, nor the even one of two as 2^-24.
		{floatOf(0x1p-44), sequence{"5684341886080802", -29}},
		{floatOf(0x1p-24), sequence{"5960464477539063", -23}},
		{floatOf(0x1p-791), sequence{"7678447687145631", -254}},
		{floatOf(0x1p-1017), sequence{"7120236347223045", -322}},
		{floatOf(0x1p976), sequence{"6386688990511104", 278}},
	} {
		if digits, q := Digits(x.f); (sequence{digits, q}) != x.want {
			t.Errorf("%x: %s, %d, not %v", x.f, digits, q, x.want)
		}
	}
}

func TestDigitsOfOthers(t *testing.T) {
	for _, f := range []api.Float{0, minus, plusInf, minusInf, quiet, quiet | minus, plusInf + 1, minusInf + 1, minus - 1, math.MaxUint64} {
		if digits, q := Digits(f); digits != "" || q != 0 {
			t.Errorf("%x: %q, %d", f, digits, q)
		}
	}
}

func TestPrint(t *testing.T) {
	for want, x := range map[string]float64{
		"0.1":                      0.1,
		"-0.1":                     -0.1,
		"1.0":                      1,
		"-1.0":                     -1,
		"10.0":                     10,
		"-2.5":                     -2.5,
		"100.0":                    100,
		"123.456":                  123.456,
		"1234.5":                   1234.5,
		"3.141592653589793":        math.Pi,
		"0.30000000000000004":      0x1.3333333333334p-2,
		"9007199254740992.0":       1 << 53,
		"9007199254740994.0":       1<<53 + 2,
		"12345678901234567000.0":   12345678901234567000,
		"100000000000000000000.0":  1e20,
		"-123000000000000000000.0": -1.23e20,
		"999999999999999900000.0":  999999999999999900000,
		"1e21":                     1e21,
		"-1e21":                    -1e21,
		"1.2e21":                   1.2e21,
		"1e22":                     1e22,
		"1.5e300":                  1.5e300,
		"-1.5e300":                 -1.5e300,
		"1.7976931348623157e308":   math.MaxFloat64,
		"0.01":                     0.01,
		"0.00001":                  0.00001,
		"0.000001":                 0.000001,
		"-0.000001":                -0.000001,
		"0.0000012":                0.0000012,
		"0.00000123456789":         0.00000123456789,
		"9.9e-7":                   9.9e-7,
		"9.999999999999997e-7":     9.999999999999997e-7,
		"1e-7":                     1e-7,
		"-1e-7":                    -1e-7,
		"1.5e-7":                   1.5e-7,
		"1e-100":                   1e-100,
		"5e-324":                   5e-324,
		"-5e-324":                  -5e-324,
		"2.2250738585072014e-308":  0x1p-1022,
		"0.0":                      0,
		"-0.0":                     math.Copysign(0, -1),
		"inf":                      math.Inf(1),
		"-inf":                     math.Inf(-1),
	} {
		if text := Print(floatOf(x)); text != want {
			t.Errorf("%s, not %s", text, want)
		}
	}
	for _, f := range []api.Float{quiet, quiet | minus, plusInf + 1, minusInf + 1, minus - 1, math.MaxUint64} {
		if text := Print(f); text != "nan" {
			t.Errorf("%x: %s", f, text)
		}
	}
}
