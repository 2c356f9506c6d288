package deci

import (
	"math/bits"
	"strconv"
	"strings"

	"flyball/api"
	"flyball/nat"
	"flyball/pattern"
	"flyball/round"
)

const (
	// However many digits a literal has, it is too great if its exponent is farExp or more, and rounded to 0 if it is -farExp or less; unless it is 0 itself.
	farExp = 1000

	// So many digits tell any float from all others.
	enough = 17

	// log2Num / 2^log2Shift is so near to the logarithm of 2 with the base 10 that it gives the multiples up to those of 1600, rounded down.
	log2Num   = 78913
	log2Shift = 18
)

// decimal is the number of its digits times 10^exp.
type decimal struct {
	digits string
	exp    int
}

// read takes a literal apart.
func read(s string) (decimal, bool) {
	exp := 0
	if i := strings.IndexAny(s, "eE"); i >= 0 {
		n, ok := readExp(s[i+1:])
		if !ok {
			return decimal{}, false
		}
		s, exp = s[:i], n
	}
	whole, part, point := strings.Cut(s, ".")
	if !isDigits(whole) || point && !isDigits(part) {
		return decimal{}, false
	}
	return decimal{whole + part, exp - len(part)}, true
}

// readExp reads what follows the letter of an exponent; beyond farExp it stays there.
func readExp(s string) (int, bool) {
	digits, neg := strings.CutPrefix(s, "-")
	if !neg {
		digits = strings.TrimPrefix(s, "+")
	}
	if !isDigits(digits) {
		return 0, false
	}
	n := 0
	for i := range len(digits) {
		n = min(n*10+int(digits[i]-'0'), farExp)
	}
	if neg {
		n = -n
	}
	return n, true
}

// isDigits reports whether s has a byte and each one is a digit.
func isDigits(s string) bool {
	for i := range len(s) {
		if s[i] < '0' || s[i] > '9' {
			return false
		}
	}
	return s != ""
}

// decimalOf returns x * 10^exp without zeros at the end of its digits.
func decimalOf(x uint64, exp int) decimal {
	text := strconv.FormatUint(x, 10)
	digits := strings.TrimRight(text, "0")
	return decimal{digits, exp + len(text) - len(digits)}
}

// nearest returns the rounding of d.
func (d decimal) nearest() api.Float {
	number, _ := nat.Parse(d.digits)
	f, _ := round.Frac(false, number.Mul(power(10, d.exp)), power(10, -d.exp), api.Near)
	return f
}

// expansion is a number as its first digits: whole * 10^exp, and, if rest is set, something less than 10^exp.
type expansion struct {
	whole uint64
	exp   int
	rest  bool
}

// expand returns the expansion of a float that is greater than 0, with two digits more than enough, or one.
func expand(f api.Float) expansion {
	m, e := pattern.Split(f)
	// The number is 2^top or more, and less than twice that.
	top := bits.Len64(m) - 1 + e
	exp := top*log2Num>>log2Shift - enough
	num := nat.New(m).Mul(power(2, e)).Mul(power(10, -exp))
	den := power(2, -e).Mul(power(10, exp))
	quotient, rest, _ := num.Div(den)
	whole, _ := quotient.Uint()
	return expansion{whole, exp, rest.Len() > 0}
}

// shortest returns the candidate with the fewest digits that passes the test, of several ones the nearest.
func (x expansion) shortest(passes func(decimal) bool) decimal {
	size := len(strconv.FormatUint(x.whole, 10))
	for n := range enough {
		for _, d := range x.around(size - 1 - n) {
			if passes(d) {
				return d
			}
		}
	}
	return decimal{} // never, since enough digits are enough
}

// around returns the two numbers next to x that lack the last n digits of whole, the nearer one first; of two that are equally near, the even one. Since n is positive, the rest matters only where the digits that are cut are a half.
func (x expansion) around(n int) [2]decimal {
	unit := uint64(1)
	for range n {
		unit *= 10
	}
	down, cut := x.whole/unit, x.whole%unit
	both := [2]decimal{decimalOf(down, x.exp+n), decimalOf(down+1, x.exp+n)}
	if cut*2 > unit || cut*2 == unit && (x.rest || down%2 == 1) {
		both[0], both[1] = both[1], both[0]
	}
	return both
}

// power returns base^n for an n that is not far; a negative n counts as 0.
func power(base uint64, n int) nat.Nat {
	p, _ := nat.Pow(base, n)
	return p
}
