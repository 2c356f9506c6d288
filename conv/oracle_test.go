package conv

import (
	"math"
	"math/big"

	"flyball/api"
)

// This file says again what the conversions are, in the words of chapters 5 and 7, with the machine's floats and math/big: the tests hold the package against it.

const (
	minus    = api.Float(1 << 63)
	plusInf  = api.Float(0x7ff0000000000000)
	minusInf = plusInf | minus
	quiet    = api.Float(0x7ff8000000000000)
	greatest = api.Float(0x7fefffffffffffff)
	normal   = api.Float(0x0010000000000000) // the least normal float
	one      = api.Float(0x3ff0000000000000)
)

// anyMode has modes that there are not, too: those count as Near.
var anyMode = []api.Mode{api.Near, api.Up, api.Down, 3, 4, 128, 255}

func machine(f api.Float) float64 { return math.Float64frombits(uint64(f)) }

func bits(x float64) api.Float { return api.Float(math.Float64bits(x)) }

func isFinite(f api.Float) bool { return machine(f)-machine(f) == 0 }

func ratOf(f api.Float) *big.Rat { return new(big.Rat).SetFloat64(machine(f)) }

// wantFromInt is the rounding of x to 53 bits: no int64 is near to an end of the floats' exponents.
func wantFromInt(x int64, mode api.Mode) (api.Float, api.Flags) {
	way := big.ToNearestEven
	switch mode {
	case api.Up:
		way = big.ToPositiveInf
	case api.Down:
		way = big.ToNegativeInf
	}
	rounded := new(big.Float).SetPrec(53).SetMode(way).SetInt64(x)
	f, _ := rounded.Float64()
	if rounded.Acc() != big.Exact {
		return bits(f), api.Inexact
	}
	return bits(f), 0
}

// wantToInt is the truncated value, if an integer of that many bits holds it.
func wantToInt(f api.Float, size uint) (int64, api.Flags) {
	if !isFinite(f) {
		return 0, api.Invalid
	}
	x := ratOf(f)
	whole := new(big.Int).Quo(x.Num(), x.Denom())
	limit := new(big.Int).Lsh(big.NewInt(1), size-1)
	if whole.Cmp(limit) >= 0 || whole.Cmp(new(big.Int).Neg(limit)) < 0 {
		return 0, api.Invalid
	}
	if !x.IsInt() {
		return whole.Int64(), api.Inexact
	}
	return whole.Int64(), 0
}

// floor is the greatest integer that is not greater than x.
func floor(x *big.Rat) *big.Int {
	return new(big.Int).Div(x.Num(), x.Denom()) // Euclidean, so downwards: a denominator is positive
}

// ceiling is the least integer that is not less than x.
func ceiling(x *big.Rat) *big.Int {
	down := floor(new(big.Rat).Neg(x))
	return down.Neg(down)
}

// nearest is the integer nearest to x; of two the even one.
func nearest(x *big.Rat) *big.Int {
	down, up := floor(x), ceiling(x)
	toDown := new(big.Rat).Sub(x, new(big.Rat).SetInt(down))
	toUp := new(big.Rat).Sub(new(big.Rat).SetInt(up), x)
	if c := toDown.Cmp(toUp); c < 0 || c == 0 && down.Bit(0) == 0 {
		return down
	}
	return up
}

func wantWhole(f api.Float, mode api.Mode) (api.Float, api.Flags) {
	switch {
	case math.IsNaN(machine(f)):
		return quiet, 0
	case !isFinite(f):
		return f, 0
	}
	x := ratOf(f)
	whole := nearest(x)
	switch mode {
	case api.Up:
		whole = ceiling(x)
	case api.Down:
		whole = floor(x)
	}
	value, _ := new(big.Float).SetInt(whole).Float64()
	w := bits(math.Copysign(value, machine(f)))
	if ratOf(w).Cmp(x) != 0 {
		return w, api.Inexact
	}
	return w, 0
}

// stream makes words from a fixed start, so that a failure can be had again.
type stream uint64

func (s *stream) next() uint64 {
	x := uint64(*s)
	x ^= x << 13
	x ^= x >> 7
	x ^= x << 17
	*s = stream(x)
	return x * 0x2545f4914f6cdd1d
}

func (s *stream) below(n int) int { return int(s.next() >> 33 % uint64(n)) }

// integer has any number of bits, and often long runs of equal ones: those are near to ties.
func (s *stream) integer() int64 {
	x := []uint64{s.next(), 1 << 63, math.MaxUint64, s.next() &^ (1<<s.below(64) - 1)}[s.below(4)]
	x = x>>s.below(64) + uint64(s.below(5)) - 2
	if s.below(2) == 0 {
		x = -x
	}
	return int64(x)
}

// float is of any class; most have bits around the point, or a value near to what integers end at.
func (s *stream) float() api.Float {
	exps := []uint64{0, 1, 1021, 1022, 1023, 1053, 1054, 1055, 1074, 1075, 1076, 1085, 1086, 1087, 2046, 2047, uint64(1020 + s.below(70)), uint64(1020 + s.below(70)), s.next() % 2048}
	fracs := []uint64{0, 1, 1 << 51, 1<<52 - 1, 1 << s.below(52), 1<<52 - 1<<s.below(53), 1<<s.below(53) - 1, s.next() >> 12, s.next() >> 12}
	return api.Float(s.next()>>63<<63 | exps[s.below(len(exps))]<<52 | fracs[s.below(len(fracs))])
}

// floats are those of the stream, of whole and half numbers of every size, of the ends of integers, and of what is beside these.
func floats() []api.Float {
	s := stream(71)
	l := []api.Float{0, 1, 2, normal - 1, normal, normal + 1, greatest - 1, greatest, plusInf, plusInf + 1, quiet, quiet + 1, minus - 1}
	for exp := range 70 {
		power := math.Ldexp(1, exp-2)
		for _, x := range []float64{power, 1.5 * power, power + 0.5, power - 0.5, power + 1, power - 1, power + 1.5, power - 1.5} {
			l = append(l, bits(x)-1, bits(x), bits(x)+1)
		}
	}
	for range 20000 {
		l = append(l, s.float())
	}
	for _, f := range l {
		l = append(l, f^minus)
	}
	return l
}

// integers are those at the ends of every size, what is beside these, and those of the stream.
func integers() []int64 {
	s := stream(72)
	l := []int64{0, math.MaxInt64, math.MinInt64, math.MaxInt32, math.MinInt32}
	for shift := range 64 {
		for _, m := range []int64{1, -1, 3, -3} {
			for near := range int64(7) {
				l = append(l, m<<shift+near-3)
			}
		}
	}
	for range 20000 {
		l = append(l, s.integer())
	}
	return l
}
