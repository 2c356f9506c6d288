package soft

import (
	"math"
	"math/big"

	"flyball/api"
)

// This file says again what the operations are, in the words of chapters 5 and 6, with the machine's floats and math/big: the tests hold the package against it.

const (
	minus    = api.Float(1 << 63)
	plusInf  = api.Float(0x7ff0000000000000)
	minusInf = plusInf | minus
	quiet    = api.Float(0x7ff8000000000000)
	greatest = api.Float(0x7fefffffffffffff)
	normal   = api.Float(0x0010000000000000) // the least normal float
	one      = api.Float(0x3ff0000000000000)

	inexact = api.Inexact
	under   = api.Inexact | api.Underflow
	over    = api.Inexact | api.Overflow
)

var modes = []api.Mode{api.Near, api.Up, api.Down}

// anyMode has modes that there are not, too: those count as Near.
var anyMode = []api.Mode{api.Near, api.Up, api.Down, 3, 4, 128, 255}

func machine(f api.Float) float64 { return math.Float64frombits(uint64(f)) }

func bits(x float64) api.Float { return api.Float(math.Float64bits(x)) }

func isFinite(f api.Float) bool { return machine(f)-machine(f) == 0 }

func ratOf(f api.Float) *big.Rat { return new(big.Rat).SetFloat64(machine(f)) }

// pow2 is 2^e.
func pow2(e int) *big.Rat {
	one := big.NewInt(1)
	if e < 0 {
		return new(big.Rat).SetFrac(one, new(big.Int).Lsh(one, uint(-e)))
	}
	return new(big.Rat).SetInt(new(big.Int).Lsh(one, uint(e)))
}

// compare tells where a float is, seen from x; an infinity is beyond all numbers.
func compare(f float64, x *big.Rat) int {
	switch {
	case math.IsInf(f, 1):
		return 1
	case math.IsInf(f, -1):
		return -1
	}
	return ratOf(bits(f)).Cmp(x)
}

// below is the greatest float that is not greater than x.
func below(x *big.Rat) float64 {
	f, _ := x.Float64() // any float would do to begin with
	for compare(f, x) > 0 {
		f = math.Nextafter(f, math.Inf(-1))
	}
	for {
		next := math.Nextafter(f, math.Inf(1))
		if compare(next, x) > 0 {
			return f
		}
		f = next
	}
}

// above is the least float that is not less than x.
func above(x *big.Rat) float64 { return -below(new(big.Rat).Neg(x)) }

// nearest is the float nearest to x; of two the one whose FRAC is even.
func nearest(x *big.Rat) float64 {
	edge := new(big.Rat).Sub(pow2(1024), pow2(970))
	if new(big.Rat).Abs(x).Cmp(edge) >= 0 {
		return math.Inf(x.Sign())
	}
	down, up := below(x), above(x)
	switch {
	case math.IsInf(up, 1):
		return down
	case math.IsInf(down, -1):
		return up
	}
	toDown, toUp := new(big.Rat).Sub(x, ratOf(bits(down))), new(big.Rat).Sub(ratOf(bits(up)), x)
	if c := toDown.Cmp(toUp); c < 0 || c == 0 && bits(down)%2 == 0 {
		return down
	}
	return up
}

// rounding is that of an x that is not 0, with its flags.
func rounding(x *big.Rat, mode api.Mode) (api.Float, api.Flags) {
	f, bigMode := 0.0, big.ToNearestEven
	switch mode {
	case api.Up:
		f, bigMode = above(x), big.ToPositiveInf
	case api.Down:
		f, bigMode = below(x), big.ToNegativeInf
	default:
		f = nearest(x)
	}
	f = math.Copysign(f, float64(x.Sign()))
	if !math.IsInf(f, 0) && compare(f, x) == 0 {
		return bits(f), 0
	}
	size := new(big.Rat).Abs(x)
	unbounded := new(big.Float).SetPrec(53).SetMode(bigMode).SetRat(x)
	limit := new(big.Float).SetRat(pow2(1024))
	switch {
	case size.Cmp(pow2(-1022)) < 0:
		return bits(f), under
	case size.Cmp(pow2(1024)) >= 0, unbounded.Abs(unbounded).Cmp(limit) >= 0:
		return bits(f), over
	}
	return bits(f), inexact
}

// wantSpecial is what an operation answers that is not a rounding: the machine's answer tells, and has no NaN but one. ok: it is such an operation.
func wantSpecial(answer float64, divZero bool, l ...api.Float) (f api.Float, g api.Flags, ok bool) {
	finite := true
	for _, a := range l {
		if math.IsNaN(machine(a)) {
			return quiet, 0, true
		}
		finite = finite && isFinite(a)
	}
	switch {
	case math.IsNaN(answer):
		return quiet, api.Invalid, true
	case divZero:
		return bits(answer), api.DivZero, true
	}
	return bits(answer), 0, !finite
}

func wantAdd(a, b api.Float, mode api.Mode) (api.Float, api.Flags) {
	if f, g, ok := wantSpecial(machine(a)+machine(b), false, a, b); ok {
		return f, g
	}
	x := new(big.Rat).Add(ratOf(a), ratOf(b))
	switch {
	case x.Sign() != 0:
		return rounding(x, mode)
	case a == b:
		return a, 0
	case mode == api.Down:
		return minus, 0
	}
	return 0, 0
}

func wantSub(a, b api.Float, mode api.Mode) (api.Float, api.Flags) {
	return wantAdd(a, b^minus, mode)
}

func wantMul(a, b api.Float, mode api.Mode) (api.Float, api.Flags) {
	f, g, ok := wantSpecial(machine(a)*machine(b), false, a, b)
	if ok || a&^minus == 0 || b&^minus == 0 {
		return f, g
	}
	return rounding(new(big.Rat).Mul(ratOf(a), ratOf(b)), mode)
}

func wantDiv(a, b api.Float, mode api.Mode) (api.Float, api.Flags) {
	divZero := b&^minus == 0 && a&^minus != 0 && isFinite(a)
	f, g, ok := wantSpecial(machine(a)/machine(b), divZero, a, b)
	if ok || a&^minus == 0 {
		return f, g
	}
	return rounding(new(big.Rat).Quo(ratOf(a), ratOf(b)), mode)
}

func wantSqrt(a api.Float, mode api.Mode) (api.Float, api.Flags) {
	f, g, ok := wantSpecial(math.Sqrt(machine(a)), false, a)
	if ok || a&^minus == 0 {
		return f, g
	}
	return rounding(rootOf(ratOf(a)), mode)
}

// rootOf is the root of x if that has no more than 800 binary places, and otherwise a number between the same two floats, on the same side of their middle.
func rootOf(x *big.Rat) *big.Rat {
	const places = 800 // far more than the middle of two floats has that are 2^-537 or more, as the root of a float is
	square := new(big.Rat).Mul(x, pow2(2*places)).Num()
	root := new(big.Int).Sqrt(square)
	r := new(big.Rat).SetInt(root)
	if new(big.Int).Mul(root, root).Cmp(square) != 0 {
		r.Add(r, pow2(-1))
	}
	return r.Mul(r, pow2(-places))
}

// stream makes words from a fixed start, so that a failure can be had again.
type stream uint64

func (s *stream) next() uint64 {
	x := uint64(*s)
	x ^= x << 13
	x ^= x >> 7
	x ^= x << 17
	*s = stream(x)
	return x * 0x2545f4914f6cdd1d
}

func (s *stream) below(n int) int { return int(s.next() >> 33 % uint64(n)) }

// float is of any class, and every class comes often; its bits are often nearly all equal.
func (s *stream) float() api.Float {
	exps := []uint64{0, 0, 1, 2, 53, 1022, 1023, 1024, 1075, 2045, 2046, 2047, s.next() % 2048, s.next() % 2048}
	fracs := []uint64{0, 1, 2, 3, 1 << 51, 1<<52 - 1, 1<<52 - 2, 1 << s.below(52), 1<<s.below(53) - 1, s.next() >> 12, s.next() >> 12, s.next() >> (12 + s.below(52))}
	return api.Float(s.next()>>63<<63 | exps[s.below(len(exps))]<<52 | fracs[s.below(len(fracs))])
}

// near is a float whose exponent is at most that far from f's, so that sums and products meet ties and ends of classes.
func (s *stream) near(f api.Float, far int) api.Float {
	exp := int(f>>52&2047) + s.below(2*far+1) - far
	exp = min(max(exp, 0), 2046)
	return s.float()&^(2047<<52) | api.Float(exp)<<52
}

// matching is a float whose product (or quotient, if by is set) with f often lies at an end of the classes.
func (s *stream) matching(f api.Float, by bool) api.Float {
	ends := []int{-1077, -1076, -1075, -1074, -1050, -1023, -1022, -1021, 0, 1022, 1023, 1024}
	exp := int(f>>52&2047) - 1023
	if by {
		exp = -exp
	}
	exp = ends[s.below(len(ends))] - exp
	if by {
		exp = -exp
	}
	exp = min(max(exp+1023, 0), 2046)
	return s.float()&^(2047<<52) | api.Float(exp)<<52
}

// edges are floats of all classes and both signs, at the ends of each.
func edges() []api.Float {
	l := []api.Float{
		0, 1, 2, 3, 1 << 51, normal - 2, normal - 1,
		normal, normal + 1, 2*normal - 1, 2 * normal, bits(0x1p-1000), bits(0x1p-538), bits(0x1p-537), bits(0x1p-512), bits(0x1p-511),
		bits(0x1p-65), bits(0x1p-64), bits(0x1p-54), bits(0x1p-53), bits(0x1.0000000000001p-53), bits(0x1p-52), bits(0.1), bits(0.2), bits(0.5),
		one - 1, one, one + 1, bits(1.5), bits(2) - 1, bits(2), bits(3), bits(math.Pi), bits(1<<53 - 1), bits(1 << 53), bits(1<<53 + 2), bits(0x1p64),
		bits(0x1p511), bits(0x1.fffffffffffffp511), bits(0x1p512), bits(0x1p969), bits(0x1p970), bits(0x1.0000000000001p970), bits(0x1p1023),
		greatest - 1, greatest, plusInf, plusInf + 1, quiet, quiet + 1, minus - 1,
	}
	for _, f := range l {
		l = append(l, f^minus)
	}
	return l
}
