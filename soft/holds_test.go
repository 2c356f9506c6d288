package soft

import (
	"math"
	"math/big"
	"slices"
	"testing"

	"flyball/api"
	"flyball/pattern"
)

func checkPair(t *testing.T, op operation, a, b api.Float) {
	t.Helper()
	for _, mode := range anyMode[:4] {
		f, g := op.got(a, b, mode)
		if want, flags := op.want(a, b, mode); f != want || g != flags {
			t.Fatalf("%x %s %x, mode %d: %x with flags %d, not %x with flags %d", a, op.name, b, mode, f, g, want, flags)
		}
	}
}

// TestEdges: every operation is the rounding of the exact one, on all pairs of floats at the ends of the classes.
func TestEdges(t *testing.T) {
	for _, op := range operations() {
		for _, a := range edges() {
			for _, b := range edges() {
				checkPair(t, op, a, b)
			}
		}
	}
}

func TestAny(t *testing.T) {
	s := stream(32)
	for range 4000 {
		for _, op := range operations() {
			a := s.float()
			checkPair(t, op, a, s.float())
		}
	}
}

// TestSumsOfNearOnes: bits cancel, or lie at and beneath the ones that are kept.
func TestSumsOfNearOnes(t *testing.T) {
	s := stream(33)
	for range 4000 {
		a := s.float()
		checkPair(t, operations()[s.below(2)], a, s.near(a, 3))
		checkPair(t, operations()[s.below(2)], s.near(a, 130), a)
	}
}

// TestEveryDistance: a smaller part is added and taken away at each distance around the bits that a sum is kept in.
func TestEveryDistance(t *testing.T) {
	for distance := range 135 {
		for _, a := range []api.Float{one, one + 1, bits(2) - 1} {
			for _, b := range []api.Float{one, one + 1, bits(2) - 1, bits(1.5)} {
				b -= api.Float(distance) << 52
				for _, op := range operations()[:2] {
					checkPair(t, op, a, b)
					checkPair(t, op, b^minus, a)
				}
			}
		}
	}
}

// TestProductsAtTheEnds: products and quotients that are subnormal, about to be, or about to be too great.
func TestProductsAtTheEnds(t *testing.T) {
	s := stream(34)
	for range 4000 {
		a := s.float()
		checkPair(t, operations()[2], a, s.matching(a, false))
		checkPair(t, operations()[3], a, s.matching(a, true))
	}
}

func TestRoots(t *testing.T) {
	s := stream(35)
	floats := edges()
	for range 8000 {
		floats = append(floats, s.float())
	}
	for range 2000 { // squares, and floats beside them
		root := api.Float(s.next()>>38) + 1
		square, _ := Mul(bits(float64(root)), bits(float64(root)), api.Near)
		floats = append(floats, square-1, square, square+1)
	}
	for exp := range api.Float(2047) { // each power of two, and what is beside it
		floats = append(floats, exp<<52, exp<<52+1, exp<<52|(1<<52-1))
	}
	for _, a := range floats {
		for _, mode := range anyMode[:4] {
			f, g := Sqrt(a, mode)
			if want, flags := wantSqrt(a, mode); f != want || g != flags {
				t.Fatalf("the root of %x, mode %d: %x with flags %d, not %x with flags %d", a, mode, f, g, want, flags)
			}
		}
	}
}

// TestMachine: in the mode Near the operations are the machine's.
func TestMachine(t *testing.T) {
	s := stream(36)
	check := func(what string, a, b, f api.Float, want float64) {
		t.Helper()
		w := bits(want)
		if math.IsNaN(want) {
			w = quiet
		}
		if f != w {
			t.Fatalf("%x %s %x: %x, not %x", a, what, b, f, w)
		}
	}
	for i := range 200000 {
		a := s.float()
		b := []api.Float{s.float(), s.near(a, 60), s.matching(a, false), s.matching(a, true)}[i%4]
		f, _ := Add(a, b, api.Near)
		check("+", a, b, f, machine(a)+machine(b))
		f, _ = Sub(a, b, api.Near)
		check("-", a, b, f, machine(a)-machine(b))
		f, _ = Mul(a, b, api.Near)
		check("*", a, b, f, machine(a)*machine(b))
		f, _ = Div(a, b, api.Near)
		check("/", a, b, f, machine(a)/machine(b))
		f, _ = Sqrt(a, api.Near)
		check("root", a, a, f, math.Sqrt(machine(a)))
	}
}

// TestBracket: the result of Down is not greater than the exact one, that of Up not less, there is no float between them, and that of Near is one of the two.
func TestBracket(t *testing.T) {
	s := stream(37)
	exact := []func(z, x, y *big.Rat) *big.Rat{(*big.Rat).Add, (*big.Rat).Sub, (*big.Rat).Mul, (*big.Rat).Quo}
	for i := range 12000 {
		a, op := s.float(), operations()[i%4]
		b := s.near(a, 60)
		if !isFinite(a) || i%4 == 3 && b&^minus == 0 {
			continue
		}
		x := exact[i%4](new(big.Rat), ratOf(a), ratOf(b))
		near, _ := op.got(a, b, api.Near)
		up, _ := op.got(a, b, api.Up)
		down, _ := op.got(a, b, api.Down)
		checkBracket(t, x, near, up, down)
	}
}

func TestBracketOfRoots(t *testing.T) {
	s := stream(38)
	for range 5000 {
		a := s.float() &^ minus
		if !isFinite(a) {
			continue
		}
		near, _ := Sqrt(a, api.Near)
		up, _ := Sqrt(a, api.Up)
		down, _ := Sqrt(a, api.Down)
		checkBracket(t, rootOf(ratOf(a)), near, up, down)
	}
}

func checkBracket(t *testing.T, x *big.Rat, near, up, down api.Float) {
	t.Helper()
	toDown, toUp := compare(machine(down), x), compare(machine(up), x)
	if toDown > 0 || toUp < 0 {
		t.Fatalf("%s: Down %x, Up %x", x, down, up)
	}
	if pattern.Less(pattern.Next(down), up) || toDown == 0 && toUp != 0 || toUp == 0 && toDown != 0 {
		t.Fatalf("%s: there are floats between Down %x and Up %x", x, down, up)
	}
	if near != down && near != up {
		t.Fatalf("%s: Near %x is neither Down %x nor Up %x", x, near, down, up)
	}
}

// TestCommutative: sums and products, their flags too.
func TestCommutative(t *testing.T) {
	s := stream(39)
	check := func(a, b api.Float) {
		t.Helper()
		for _, do := range []binary{Add, Mul} {
			for _, mode := range anyMode {
				f, g := do(a, b, mode)
				if back, flags := do(b, a, mode); f != back || g != flags {
					t.Fatalf("%x and %x, mode %d: %x, %d and %x, %d", a, b, mode, f, g, back, flags)
				}
			}
		}
	}
	for _, a := range edges() {
		for _, b := range edges() {
			check(a, b)
		}
	}
	for range 20000 {
		a := s.float()
		check(a, s.float())
		check(a, s.near(a, 70))
		check(a, s.matching(a, false))
	}
}

// TestMonotonic: from the least float to the greatest, with another operand that stays, no result goes back.
func TestMonotonic(t *testing.T) {
	s := stream(40)
	for range 150 {
		other := s.float()
		if math.IsNaN(machine(other)) {
			continue
		}
		list := ordered(&s, other)
		for _, mode := range modes {
			checkOrder(t, list, mode, other, 1, func(f api.Float) api.Float { r, _ := Add(f, other, mode); return r })
			checkOrder(t, list, mode, other, 1, func(f api.Float) api.Float { r, _ := Sub(f, other, mode); return r })
			checkOrder(t, list, mode, other, -1, func(f api.Float) api.Float { r, _ := Sub(other, f, mode); return r })
			checkOrder(t, list, mode, other, sign(other), func(f api.Float) api.Float { r, _ := Mul(f, other, mode); return r })
			checkOrder(t, list, mode, other, sign(other), func(f api.Float) api.Float { r, _ := Div(f, other, mode); return r })
			checkOrder(t, list, mode, other, 1, func(f api.Float) api.Float { r, _ := Sqrt(f, mode); return r })
			negative, positive := halves(list)
			checkOrder(t, negative, mode, other, -sign(other), func(f api.Float) api.Float { r, _ := Div(other, f, mode); return r })
			checkOrder(t, positive, mode, other, -sign(other), func(f api.Float) api.Float { r, _ := Div(other, f, mode); return r })
		}
	}
}

// ordered are floats by their values; many follow each other at once, near to other and anywhere.
func ordered(s *stream, other api.Float) []api.Float {
	l := []api.Float{minusInf, plusInf, 0}
	for range 12 {
		f := []api.Float{s.float(), s.near(other, 56), other}[s.below(3)]
		for range 8 {
			l = append(l, f)
			f = pattern.Next(f)
		}
	}
	l = slices.DeleteFunc(l, func(f api.Float) bool { return math.IsNaN(machine(f)) })
	slices.SortFunc(l, func(a, b api.Float) int { c, _ := pattern.Cmp(a, b); return c })
	return l
}

// halves are the floats below 0, and those above.
func halves(l []api.Float) (negative, positive []api.Float) {
	for _, f := range l {
		switch {
		case machine(f) < 0:
			negative = append(negative, f)
		case machine(f) > 0:
			positive = append(positive, f)
		}
	}
	return negative, positive
}

func sign(f api.Float) int {
	if f&minus != 0 {
		return -1
	}
	return 1
}

func checkOrder(t *testing.T, list []api.Float, mode api.Mode, other api.Float, way int, do func(api.Float) api.Float) {
	t.Helper()
	last := pattern.Inf(way > 0)
	for _, f := range list {
		r := do(f)
		if math.IsNaN(machine(r)) {
			continue
		}
		if c, _ := pattern.Cmp(r, last); c == -way {
			t.Fatalf("%x and %x, mode %d: %x, after %x", f, other, mode, r, last)
		}
		last = r
	}
}

// TestSameAgain: a result hangs on the arguments alone.
func TestSameAgain(t *testing.T) {
	type question struct {
		a, b api.Float
		mode api.Mode
		op   int
	}
	s := stream(41)
	first := map[question]answer{}
	for range 2 {
		s = stream(41)
		for i := range 5000 {
			q := question{s.float(), s.float(), anyMode[s.below(len(anyMode))], i % 4}
			f, g := operations()[q.op].got(q.a, q.b, q.mode)
			if before, ok := first[q]; ok && before != (answer{f, g}) {
				t.Fatalf("%v: %x, %d, and before that %v", q, f, g, before)
			}
			first[q] = answer{f, g}
		}
	}
}
