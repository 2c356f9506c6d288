package nat

import "math/bits"

// trim cuts the zero words at the end off. It shares memory with a.
func (a Nat) trim() Nat {
	for i := range len(a) {
		if size := len(a) - i; a[size-1] != 0 {
			return a[:size]
		}
	}
	return nil
}

// word returns the word i, which is 0 beyond the end.
func (a Nat) word(i int) uint32 {
	if i >= len(a) {
		return 0
	}
	return a[i]
}

// twos returns how often 2 divides a number that is not 0.
func (a Nat) twos() int {
	for i := range len(a) {
		if a[i] != 0 {
			return i*wordBits + bits.TrailingZeros32(a[i])
		}
	}
	return 0
}

// lift returns a * 2^n, always with a word for the bits that leave the last one, which may be 0.
func (a Nat) lift(n int) Nat {
	skip, n := n/wordBits, n%wordBits
	high := make(Nat, skip+len(a)+1)
	for i := range len(a) {
		// A word that is shifted by all of its bits is 0, so an n of 0 needs no case of its own.
		high[skip+i] |= a[i] << n
		high[skip+i+1] = a[i] >> (wordBits - n)
	}
	return high
}

// addProduct adds b * w to the first words of a, in place, and returns the carry.
func (a Nat) addProduct(b Nat, w uint32) uint32 {
	carry := uint64(0)
	for i := range len(b) {
		// The greatest sum is (2^32-1)^2 + 2 * (2^32-1), which is 2^64 - 1.
		sum := uint64(b[i])*uint64(w) + uint64(a[i]) + carry
		a[i] = uint32(sum)
		carry = sum >> wordBits
	}
	return uint32(carry)
}

// subProduct subtracts b * w from a, which has one word more than b, in place, and returns the borrow.
func (a Nat) subProduct(b Nat, w uint32) uint32 {
	carry, borrow := uint64(0), uint32(0)
	for i := range len(b) {
		product := uint64(b[i])*uint64(w) + carry
		a[i], borrow = bits.Sub32(a[i], uint32(product), borrow)
		carry = product >> wordBits
	}
	a[len(b)], borrow = bits.Sub32(a[len(b)], uint32(carry), borrow)
	return borrow
}

// addBack adds b to a, which has one word more, in place, and returns the carry.
func (a Nat) addBack(b Nat) uint32 {
	carry := uint32(0)
	for i := range len(a) {
		a[i], carry = bits.Add32(a[i], b.word(i), carry)
	}
	return carry
}

// mulAdd returns a * factor + carry, and may use the memory of a.
func (a Nat) mulAdd(factor, carry uint32) Nat {
	for i := range len(a) {
		sum := uint64(a[i])*uint64(factor) + uint64(carry)
		a[i], carry = uint32(sum), uint32(sum>>wordBits)
	}
	if carry != 0 {
		a = append(a, carry)
	}
	return a
}

// divWord divides by a b that is not 0.
func (a Nat) divWord(b uint32) (Nat, uint32) {
	quotient := make(Nat, len(a))
	rest := uint32(0)
	for i := range len(a) {
		top := len(a) - 1 - i
		quotient[top], rest = bits.Div32(rest, a[top], b)
	}
	return quotient.trim(), rest
}

// divLong divides a by b; both are trimmed, b has two words or more, and a no fewer.
func (a Nat) divLong(b Nat) (Nat, Nat) {
	// The guess of a word of the quotient is near only if the divisor's highest bit is set; the shift leaves the quotient as it is.
	n := bits.LeadingZeros32(b[len(b)-1])
	rest := a.lift(n)
	b = b.lift(n).trim()
	quotient := make(Nat, len(a)-len(b)+1)
	for i := range len(quotient) {
		at := len(quotient) - 1 - i
		quotient[at] = divStep(rest[at:at+len(b)+1], b)
	}
	return quotient.trim(), rest.Shr(n)
}

// divStep returns rest / b and leaves the remainder in rest. The highest bit of b is set, rest has one word more, and without its first word it is less than b, so that the quotient is one word.
func divStep(rest, b Nat) uint32 {
	high, top := rest[len(b)], b[len(b)-1]
	guess := ^uint32(0)
	if high < top {
		guess, _ = bits.Div32(high, rest[len(b)-1], top)
	}
	borrow := rest.subProduct(b, guess)
	// The guess is never too small, and too great by at most 2.
	for borrow != 0 {
		guess--
		borrow -= rest.addBack(b)
	}
	return guess
}

// isDigits reports whether s has a byte and each one is a digit.
func isDigits(s string) bool {
	for i := range len(s) {
		if s[i] < '0' || s[i] > '9' {
			return false
		}
	}
	return s != ""
}

// group returns the number of at most groupDigits digits.
func group(s string) uint32 {
	x := uint32(0)
	for i := range len(s) {
		x = x*10 + uint32(s[i]-'0')
	}
	return x
}
