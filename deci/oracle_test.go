package deci

import (
	"math"
	"math/big"
	"regexp"
	"strconv"
	"strings"

	"flyball/api"
)

// This file says again what the calls are, in the words of the chapter, with the machine's floats and math/big: the tests hold the package against it.

const (
	minus    = api.Float(1 << 63)
	plusInf  = api.Float(0x7ff0000000000000)
	minusInf = plusInf | minus
	quiet    = api.Float(0x7ff8000000000000)
	greatest = api.Float(0x7fefffffffffffff)
	normal   = api.Float(0x0010000000000000) // the least normal float
)

func machine(f api.Float) float64 { return math.Float64frombits(uint64(f)) }

func floatOf(x float64) api.Float { return api.Float(math.Float64bits(x)) }

func isFinite(f api.Float) bool { return machine(f)-machine(f) == 0 }

// powers are those that were asked for; nobody writes to them.
var powers = map[[2]int]*big.Int{}

// wholePow is base^e; a negative e counts as 0.
func wholePow(base, e int) *big.Int {
	key := [2]int{base, max(e, 0)}
	if powers[key] == nil {
		powers[key] = new(big.Int).Exp(big.NewInt(int64(base)), big.NewInt(int64(key[1])), nil)
	}
	return powers[key]
}

// pow is base^e.
func pow(base, e int) *big.Rat {
	return new(big.Rat).SetFrac(wholePow(base, e), wholePow(base, -e))
}

// valueOf is the value of a finite float; +infinity counts as the power of two that would come behind the greatest one.
func valueOf(f api.Float) *big.Rat {
	if f == plusInf {
		return pow(2, 1024)
	}
	return new(big.Rat).SetFloat64(machine(f))
}

// midway is the number between a float that has no sign and the next one.
func midway(f api.Float) *big.Rat {
	sum := new(big.Rat).Add(valueOf(f), valueOf(f+1))
	return sum.Mul(sum, big.NewRat(1, 2))
}

var literals = regexp.MustCompile(`^[0-9]+(\.[0-9]+)?([eE][+-]?[0-9]+)?$`)

func wantParse(s string) (api.Float, api.Errno) {
	if len(s) > 400 {
		return 0, api.ErrDeciLong
	}
	if !literals.MatchString(s) {
		return 0, api.ErrDeciText
	}
	x, err := strconv.ParseFloat(s, 64)
	if err != nil {
		return 0, api.ErrDeciOver
	}
	return floatOf(x), api.OK
}

type sequence struct {
	digits string
	q      int
}

func (s sequence) number() *big.Rat {
	d, _ := new(big.Int).SetString(s.digits, 10)
	x := new(big.Rat).SetInt(d)
	return x.Mul(x, pow(10, s.q))
}

// numbers are all that are rounded to a float that is greater than 0: those from low to high, and both of these if the float is even. They are counted in 2^-1075, in which they are whole.
type numbers struct {
	value, low, high *big.Int
	ends             bool
}

func numbersOf(f api.Float) numbers {
	count := func(x *big.Rat) *big.Int { return new(big.Rat).Mul(x, pow(2, 1075)).Num() }
	return numbers{count(valueOf(f)), count(midway(f - 1)), count(midway(f)), f%2 == 0}
}

// ofLength are all sequences of so many digits, without a zero at an end, whose numbers are rounded to the float.
func (n numbers) ofLength(size int) []sequence {
	var l []sequence
	log := int(math.Floor(n.log()))
	// The q of numbers about as great as the value, and one more on either side: the interval may reach beyond a power of ten, and the logarithm be a little off.
	for q := log - size; q <= log-size+2; q++ {
		l = append(l, n.withPower(size, q)...)
	}
	return l
}

// withPower are those of them whose last digit counts 10^q.
func (n numbers) withPower(size, q int) []sequence {
	var l []sequence
	least, beyond := wholePow(10, size-1), wholePow(10, size)
	unit, scale := new(big.Int).Mul(wholePow(10, q), wholePow(2, 1075)), wholePow(10, -q)
	low, high := new(big.Int).Mul(n.low, scale), new(big.Int).Mul(n.high, scale)
	d := new(big.Int).Div(low, unit)
	if d.Cmp(least) < 0 {
		d = least
	}
	for d.Cmp(beyond) < 0 {
		x := new(big.Int).Mul(d, unit)
		toLow, toHigh := x.Cmp(low), x.Cmp(high)
		if toHigh > 0 {
			break
		}
		if toLow > 0 && toHigh < 0 || n.ends && (toLow == 0 || toHigh == 0) {
			if !strings.HasSuffix(d.String(), "0") {
				l = append(l, sequence{d.String(), q})
			}
		}
		d = new(big.Int).Add(d, big.NewInt(1))
	}
	return l
}

// log is about the logarithm of the value, with the base 10.
func (n numbers) log() float64 {
	mantissa := new(big.Float)
	exp := new(big.Float).SetInt(n.value).MantExp(mantissa)
	m, _ := mantissa.Float64()
	return math.Log10(m) + float64(exp-1075)*math.Log10(2)
}

// gap is how far a sequence's number is from the float's value.
func (n numbers) gap(s sequence) *big.Rat {
	value := new(big.Rat).Mul(new(big.Rat).SetInt(n.value), pow(2, -1075))
	d := value.Sub(value, s.number())
	return d.Abs(d)
}

// better reports whether a is nearer to the value than b, or equally near and even.
func (n numbers) better(a, b sequence) bool {
	c := n.gap(a).Cmp(n.gap(b))
	return c < 0 || c == 0 && strings.ContainsRune("02468", rune(a.digits[len(a.digits)-1]))
}

func wantDigits(f api.Float) sequence {
	f &^= minus
	if !isFinite(f) || f == 0 {
		return sequence{}
	}
	n := numbersOf(f)
	for size := 1; ; size++ {
		l := n.ofLength(size)
		if len(l) == 0 {
			continue
		}
		best := l[0]
		for _, s := range l[1:] {
			if n.better(s, best) {
				best = s
			}
		}
		return best
	}
}

// machineDigits are the machine's shortest ones.
func machineDigits(f api.Float) sequence {
	mantissa, exp, _ := strings.Cut(strconv.FormatFloat(math.Abs(machine(f)), 'e', -1, 64), "e")
	point, _ := strconv.Atoi(exp)
	digits := strings.Replace(mantissa, ".", "", 1)
	return sequence{digits, point - len(digits) + 1}
}

// machinePrint is the machine's text in the form that the chapter says: with an exponent if the float is less than 0.000001, or 1e21 or more.
func machinePrint(f api.Float) string {
	x := machine(f)
	switch {
	case math.IsNaN(x):
		return "nan"
	case math.IsInf(x, 0):
		return strings.ToLower(strings.TrimPrefix(strconv.FormatFloat(x, 'f', -1, 64), "+"))
	case x != 0 && (math.Abs(x) < 1e-6 || math.Abs(x) >= 1e21):
		mantissa, exp, _ := strings.Cut(strconv.FormatFloat(x, 'e', -1, 64), "e")
		n, _ := strconv.Atoi(exp)
		return mantissa + "e" + strconv.Itoa(n)
	}
	text := strconv.FormatFloat(x, 'f', -1, 64)
	if !strings.Contains(text, ".") {
		text += ".0"
	}
	return text
}

// stream makes words from a fixed start, so that a failure can be had again.
type stream uint64

func (s *stream) next() uint64 {
	x := uint64(*s)
	x ^= x << 13
	x ^= x >> 7
	x ^= x << 17
	*s = stream(x)
	return x * 0x2545f4914f6cdd1d
}

func (s *stream) below(n int) int { return int(s.next() >> 33 % uint64(n)) }

// float is greater than 0 and finite, and often a float of few bits.
func (s *stream) float() api.Float {
	exps := []uint64{0, 0, 1, 1022, 1023, 1075, 1076, 2046, s.next() % 2047, s.next() % 2047, s.next() % 2047, s.next() % 2047}
	fracs := []uint64{0, 1, 1 << 51, 1<<52 - 1, s.next() >> 12 &^ (1<<s.below(53) - 1), s.next() >> 12 >> s.below(52), s.next() >> 12, s.next() >> 12}
	f := api.Float(exps[s.below(len(exps))]<<52 | fracs[s.below(len(fracs))])
	return max(f, 1)
}

// digits are n of them.
func (s *stream) digits(n int) string {
	b := make([]byte, n)
	for i := range b {
		b[i] = "0123456789"[s.next()>>40%10]
	}
	return string(b)
}

// literal is one of any length, with a value that is often near to the floats' ends.
func (s *stream) literal() string {
	text := strings.Repeat("0", s.below(3)*s.below(60)) + s.digits(1+s.below(25))
	point := 0
	if s.below(3) > 0 {
		zeros := strings.Repeat("0", s.below(2)*s.below(150))
		text += "." + zeros + s.digits(1+s.below(40))
		point = len(zeros)
	}
	if s.below(4) > 0 {
		exp := []int{s.below(30) - 15, s.below(60) - 345, s.below(30) + 290, s.below(700) - 350}[s.below(4)] + point
		text += []string{"e", "E"}[s.below(2)] + []string{"", "+"}[s.below(2)*s.below(2)]
		if text[len(text)-1] == '+' {
			exp = max(exp, -exp)
		}
		text += strconv.Itoa(exp)
	}
	return text
}

// ties are floats whose value is midway between two sequences of digits: (2 * j + 1) / (2 * 10^p).
func ties() []api.Float {
	var l []api.Float
	for p := range 23 {
		for c := 1; c < 4000; c += 2 {
			m := float64(c) * math.Pow(5, float64(p))
			if m >= 1<<53 {
				break
			}
			f := floatOf(math.Ldexp(m, -p-1))
			if machineDigits(f).q == -p {
				l = append(l, f)
			}
		}
	}
	return l
}

// edges are floats at the ends of classes, at powers of two and of ten, at ties, and what is beside these; all are finite and greater than 0.
func edges() []api.Float {
	l := []api.Float{1, 2, 3, normal - 1, normal, normal + 1, greatest - 1, greatest}
	for e := -1074; e <= 1023; e++ {
		f := floatOf(math.Ldexp(1, e))
		l = append(l, f-1, f, f+1)
	}
	for e := -323; e <= 308; e++ {
		x, _ := strconv.ParseFloat("1e"+strconv.Itoa(e), 64)
		l = append(l, floatOf(x)-1, floatOf(x), floatOf(x)+1)
	}
	for i := range api.Float(200) {
		l = append(l, i, floatOf(float64(i)), floatOf(float64(i)/10), floatOf(float64(i)/100), floatOf(1<<53)+i)
	}
	l = append(l, ties()...)
	var positive []api.Float
	for _, f := range l {
		if f > 0 && f <= greatest {
			positive = append(positive, f)
		}
	}
	return positive
}

// floats are the edges and those of the stream.
func floats(n int) []api.Float {
	s := stream(81)
	l := edges()
	for range n {
		l = append(l, s.float())
	}
	return l
}
