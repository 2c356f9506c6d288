// Package wide is layer 1: unsigned integers of 128 and 192 bits, made of words of 64 bits (see shared/doc/01-wide.md).
package wide

import (
	"cmp"
	"math/bits"
)

const wordBits = 64

// U128 is the number Hi * 2^64 + Lo.
type U128 struct{ Hi, Lo uint64 }

// U192 is the number Hi * 2^128 + Mid * 2^64 + Lo.
type U192 struct{ Hi, Mid, Lo uint64 }

// Mul returns the exact product.
func Mul(a, b uint64) U128 {
	hi, lo := bits.Mul64(a, b)
	return U128{hi, lo}
}

// Add returns the sum modulo 2^128, and the carry.
func (a U128) Add(b U128) (U128, uint64) {
	lo, carry := bits.Add64(a.Lo, b.Lo, 0)
	hi, carry := bits.Add64(a.Hi, b.Hi, carry)
	return U128{hi, lo}, carry
}

// Sub returns the difference modulo 2^128, and the borrow.
func (a U128) Sub(b U128) (U128, uint64) {
	lo, borrow := bits.Sub64(a.Lo, b.Lo, 0)
	hi, borrow := bits.Sub64(a.Hi, b.Hi, borrow)
	return U128{hi, lo}, borrow
}

// Cmp returns -1, 0 or 1.
func (a U128) Cmp(b U128) int {
	return compare([2]uint64{a.Hi, b.Hi}, [2]uint64{a.Lo, b.Lo})
}

// Len returns the number of significant bits.
func (a U128) Len() int {
	if a.Hi != 0 {
		return wordBits + bits.Len64(a.Hi)
	}
	return bits.Len64(a.Lo)
}

// Shl returns a * 2^n modulo 2^128; a negative n counts as 0.
func (a U128) Shl(n int) U128 {
	s := a.widen().Shl(n)
	return s.low()
}

// Shr returns a / 2^n, rounded down, and whether a bit that is 1 was shifted out; a negative n counts as 0.
func (a U128) Shr(n int) (U128, bool) {
	s, lost := a.widen().Shr(n)
	return s.low(), lost
}

// Div returns the quotient, rounded down, and the remainder; both are 0 if b is 0.
func (a U128) Div(b uint64) (U128, uint64) {
	if b == 0 {
		return U128{}, 0
	}
	q, r := a.widen().divWord(b)
	return q.low(), r
}

// Sqrt returns the greatest number whose square is not greater than a, and a minus that square.
func (a U128) Sqrt() (uint64, U128) {
	root := uint64(0)
	for bit := (a.Len()+1)/2 - 1; bit >= 0; bit-- {
		guess := root | 1<<bit
		if Mul(guess, guess).Cmp(a) <= 0 {
			root = guess
		}
	}
	rest, _ := a.Sub(Mul(root, root))
	return root, rest
}

// Mul returns the exact product.
func (a U128) Mul(b uint64) U192 {
	low, high := Mul(a.Lo, b), Mul(a.Hi, b)
	mid, carry := bits.Add64(low.Hi, high.Lo, 0)
	return U192{high.Hi + carry, mid, low.Lo}
}

// Add returns the sum modulo 2^192, and the carry.
func (a U192) Add(b U192) (U192, uint64) {
	lo, carry := bits.Add64(a.Lo, b.Lo, 0)
	mid, carry := bits.Add64(a.Mid, b.Mid, carry)
	hi, carry := bits.Add64(a.Hi, b.Hi, carry)
	return U192{hi, mid, lo}, carry
}

// Sub returns the difference modulo 2^192, and the borrow.
func (a U192) Sub(b U192) (U192, uint64) {
	lo, borrow := bits.Sub64(a.Lo, b.Lo, 0)
	mid, borrow := bits.Sub64(a.Mid, b.Mid, borrow)
	hi, borrow := bits.Sub64(a.Hi, b.Hi, borrow)
	return U192{hi, mid, lo}, borrow
}

// Cmp returns -1, 0 or 1.
func (a U192) Cmp(b U192) int {
	return compare([2]uint64{a.Hi, b.Hi}, [2]uint64{a.Mid, b.Mid}, [2]uint64{a.Lo, b.Lo})
}

// Len returns the number of significant bits.
func (a U192) Len() int {
	if a.Hi != 0 {
		return 2*wordBits + bits.Len64(a.Hi)
	}
	return a.low().Len()
}

// Shl returns a * 2^n modulo 2^192; a negative n counts as 0.
func (a U192) Shl(n int) U192 {
	if n >= 3*wordBits {
		return U192{}
	}
	n = max(n, 0)
	for ; n >= wordBits; n -= wordBits {
		a = U192{a.Mid, a.Lo, 0}
	}
	// A word that is shifted by all of its bits is 0, so an n of 0 needs no case of its own.
	back := wordBits - n
	return U192{a.Hi<<n | a.Mid>>back, a.Mid<<n | a.Lo>>back, a.Lo << n}
}

// Shr returns a / 2^n, rounded down, and whether a bit that is 1 was shifted out; a negative n counts as 0.
func (a U192) Shr(n int) (U192, bool) {
	if n >= 3*wordBits {
		return U192{}, a != U192{}
	}
	n = max(n, 0)
	lost := false
	for ; n >= wordBits; n -= wordBits {
		lost = lost || a.Lo != 0
		a = U192{0, a.Hi, a.Mid}
	}
	back := wordBits - n
	lost = lost || a.Lo<<back != 0
	return U192{a.Hi >> n, a.Mid>>n | a.Hi<<back, a.Lo>>n | a.Mid<<back}, lost
}

// Div returns the quotient, rounded down, and the remainder; both are 0 if b is 0.
func (a U192) Div(b U128) (U192, U128) {
	switch {
	case b == U128{}:
		return U192{}, U128{}
	case b.Hi == 0:
		q, r := a.divWord(b.Lo)
		return q, U128{0, r}
	}
	// The guess of a word of the quotient is near only if the divisor's highest bit is set; the shift leaves the quotient as it is.
	n := bits.LeadingZeros64(b.Hi)
	b = b.Shl(n)
	top := a.Hi >> (wordBits - n)
	a = a.Shl(n)
	mid, r := divStep(U192{top, a.Hi, a.Mid}, b)
	lo, r := divStep(U192{r.Hi, r.Lo, a.Lo}, b)
	r, _ = r.Shr(n)
	return U192{0, mid, lo}, r
}

// Sum returns the sum of all arguments modulo 2^192.
func Sum(l ...U128) U192 {
	total := U192{}
	for _, a := range l {
		total, _ = total.Add(a.widen())
	}
	return total
}

// compare takes pairs of words of the same weight, the weightiest first: the first pair that differs decides.
func compare(pairs ...[2]uint64) int {
	for _, p := range pairs {
		if c := cmp.Compare(p[0], p[1]); c != 0 {
			return c
		}
	}
	return 0
}

func (a U128) widen() U192 { return U192{0, a.Hi, a.Lo} }

func (a U192) low() U128 { return U128{a.Mid, a.Lo} }

// divWord divides by a b that is not 0.
func (a U192) divWord(b uint64) (U192, uint64) {
	hi, r := bits.Div64(0, a.Hi, b)
	mid, r := bits.Div64(r, a.Mid, b)
	lo, r := bits.Div64(r, a.Lo, b)
	return U192{hi, mid, lo}, r
}

// divStep divides by a b whose highest bit is set and that is greater than a / 2^64, so that the quotient is one word.
func divStep(a U192, b U128) (uint64, U128) {
	guess := ^uint64(0)
	if a.Hi < b.Hi {
		guess, _ = bits.Div64(a.Hi, a.Mid, b.Hi)
	}
	rest, borrow := a.Sub(b.Mul(guess))
	// The guess is never too small, and too great by at most 2.
	for borrow != 0 {
		guess--
		back, carry := rest.Add(b.widen())
		rest = back
		borrow -= carry
	}
	return guess, rest.low()
}
