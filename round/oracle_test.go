package round

import (
	"math"
	"math/big"

	"flyball/api"
	"flyball/nat"
	"flyball/wide"
)

// This file says again what rounding is, in the words of the chapter, with the machine's floats and math/big: the tests hold the package against it.

const (
	minus    = api.Float(1 << 63)
	plusInf  = api.Float(0x7ff0000000000000)
	greatest = api.Float(0x7fefffffffffffff)
	one      = api.Float(0x3ff0000000000000)
)

var modes = []api.Mode{api.Near, api.Up, api.Down}

func machine(f api.Float) float64 { return math.Float64frombits(uint64(f)) }

func bits(x float64) api.Float { return api.Float(math.Float64bits(x)) }

func isFinite(f api.Float) bool { return machine(f)-machine(f) == 0 }

func ratOf(f float64) *big.Rat { return new(big.Rat).SetFloat64(f) }

// pow2 is 2^e.
func pow2(e int) *big.Rat {
	one := big.NewInt(1)
	if e < 0 {
		return new(big.Rat).SetFrac(one, new(big.Int).Lsh(one, uint(-e)))
	}
	return new(big.Rat).SetInt(new(big.Int).Lsh(one, uint(e)))
}

func bigOf(m wide.U128) *big.Int {
	x := new(big.Int).SetUint64(m.Hi)
	return x.Lsh(x, 64).Or(x, new(big.Int).SetUint64(m.Lo))
}

// natOf is a number that is not negative.
func natOf(x *big.Int) nat.Nat {
	var a nat.Nat
	for rest := new(big.Int).Set(x); rest.Sign() > 0; rest.Rsh(rest, 32) {
		a = append(a, uint32(new(big.Int).And(rest, big.NewInt(math.MaxUint32)).Uint64()))
	}
	return a
}

// compare tells where a float is, seen from x; an infinity is beyond all numbers.
func compare(f float64, x *big.Rat) int {
	switch {
	case math.IsInf(f, 1):
		return 1
	case math.IsInf(f, -1):
		return -1
	}
	return ratOf(f).Cmp(x)
}

// below is the greatest float that is not greater than x.
func below(x *big.Rat) float64 {
	f, _ := x.Float64() // any float would do to begin with
	for compare(f, x) > 0 {
		f = math.Nextafter(f, math.Inf(-1))
	}
	for {
		next := math.Nextafter(f, math.Inf(1))
		if compare(next, x) > 0 {
			return f
		}
		f = next
	}
}

// above is the least float that is not less than x.
func above(x *big.Rat) float64 { return -below(new(big.Rat).Neg(x)) }

// nearest is the float nearest to x; of two the one whose FRAC is even.
func nearest(x *big.Rat) float64 {
	edge := new(big.Rat).Sub(pow2(1024), pow2(970))
	if new(big.Rat).Abs(x).Cmp(edge) >= 0 {
		return math.Inf(x.Sign())
	}
	down, up := below(x), above(x)
	switch {
	case math.IsInf(up, 1):
		return down
	case math.IsInf(down, -1):
		return up
	}
	toDown, toUp := new(big.Rat).Sub(x, ratOf(down)), new(big.Rat).Sub(ratOf(up), x)
	if c := toDown.Cmp(toUp); c < 0 || c == 0 && bits(down)%2 == 0 {
		return down
	}
	return up
}

// want is the rounding of an x that is not 0, and its flags.
func want(x *big.Rat, mode api.Mode) (api.Float, api.Flags) {
	f, bigMode := nearest(x), big.ToNearestEven
	switch mode {
	case api.Up:
		f, bigMode = above(x), big.ToPositiveInf
	case api.Down:
		f, bigMode = below(x), big.ToNegativeInf
	}
	f = math.Copysign(f, float64(x.Sign()))
	if !math.IsInf(f, 0) && compare(f, x) == 0 {
		return bits(f), 0
	}
	size := new(big.Rat).Abs(x)
	unbounded := new(big.Float).SetPrec(53).SetMode(bigMode).SetRat(x)
	over := new(big.Float).SetRat(pow2(1024))
	switch {
	case size.Cmp(pow2(-1022)) < 0:
		return bits(f), api.Inexact | api.Underflow
	case size.Cmp(pow2(1024)) >= 0, unbounded.Abs(unbounded).Cmp(over) >= 0:
		return bits(f), api.Inexact | api.Overflow
	}
	return bits(f), api.Inexact
}

// stream makes words from a fixed start, so that a failure can be had again.
type stream uint64

func (s *stream) next() uint64 {
	x := uint64(*s)
	x ^= x << 13
	x ^= x >> 7
	x ^= x << 17
	*s = stream(x)
	return x * 0x2545f4914f6cdd1d
}

func (s *stream) below(n int) int { return int(s.next() >> 33 % uint64(n)) }

func (s *stream) bool() bool { return s.next()>>63 == 1 }

// float is of any class, and every class comes often.
func (s *stream) float() api.Float {
	exps := []uint64{0, 1, 1022, 1023, 1075, 2046, 2047, s.next() % 2048}
	fracs := []uint64{0, 1, 1 << 51, 1<<52 - 1, s.next() >> 12, s.next() >> 12}
	return api.Float(s.next()>>63<<63 | exps[s.below(8)]<<52 | fracs[s.below(6)])
}

// wide has any number of bits but none, and often long runs of equal ones: those are near to ties.
func (s *stream) wide() wide.U128 {
	m := wide.U128{Hi: s.next(), Lo: s.next()}
	ones := wide.U128{Hi: math.MaxUint64, Lo: math.MaxUint64}
	switch s.below(4) {
	case 0:
		m = ones
	case 1:
		m = ones.Shl(s.below(128))
	case 2:
		m = wide.U128{Hi: 1 << 63}
		m, _ = m.Add(wide.U128{Lo: 1}.Shl(s.below(127)))
	}
	m.Hi |= 1 << 63
	m, _ = m.Shr(s.below(128))
	switch s.below(6) {
	case 0:
		m, _ = m.Add(wide.U128{Lo: 1})
	case 1:
		m, _ = m.Sub(wide.U128{Lo: 1})
	}
	if m.Len() == 0 {
		return wide.U128{Lo: 1}
	}
	return m
}

// exponent brings a number of that many bits often to the ends of the classes of floats.
func (s *stream) exponent(size int) int {
	tops := []int{-1080, -1076, -1075, -1074, -1073, -1060, -1023, -1022, -1021, 0, 1, 53, 1022, 1023, 1024, 1025, 1026, s.below(2300) - 1150}
	return tops[s.below(len(tops))] - size
}

// big is a number of at most that many bits, but not 0.
func (s *stream) big(bits int) *big.Int {
	x := new(big.Int)
	for range bits/64 + 1 {
		x.Lsh(x, 64).Or(x, new(big.Int).SetUint64(s.next()))
	}
	x.Rsh(x, uint(x.BitLen()-min(x.BitLen(), bits)))
	if x.Sign() == 0 {
		return big.NewInt(1)
	}
	return x
}
