package round

import (
	"math/big"
	"slices"
	"testing"

	"flyball/api"
	"flyball/nat"
	"flyball/pattern"
	"flyball/ratio"
	"flyball/wide"
)

// number is a number that may come anywhere: between any two floats, and beyond all of them.
func (s *stream) number() ratio.R {
	value, _ := pattern.Value(s.float() &^ (1 << 62))
	switch s.below(4) {
	case 0:
		return value
	case 1: // beside a float
		_, e := pattern.Split(s.float())
		little, _ := ratio.Dyad(s.bool(), 1+uint64(s.below(3)), e-60)
		return value.Add(little)
	case 2:
		r, _ := ratio.Dyad(s.bool(), s.next(), s.below(2400)-1240)
		return r
	}
	r, _ := ratio.New(s.bool(), nat.New(s.next()), nat.New(s.next()|1))
	return r
}

// notAbove reports whether a float that is no NaN is at most r.
func notAbove(f api.Float, r ratio.R) bool {
	value, ok := pattern.Value(f)
	if !ok {
		return f == pattern.Inf(true)
	}
	return value.Cmp(r) <= 0
}

func notBelow(f api.Float, r ratio.R) bool {
	return notAbove(pattern.Neg(f), r.Neg1())
}

// checkBracket: down is not above, up not below, nothing lies between, and the nearest one is one of both.
func checkBracket(t *testing.T, r ratio.R, near, up, down api.Float) {
	t.Helper()
	if !notAbove(down, r) || !notBelow(up, r) {
		t.Fatalf("%s: Down %x, Up %x", r.Text(), down, up)
	}
	if c, ok := pattern.Cmp(down, up); !ok || c != 0 && pattern.Less(pattern.Next(down), up) {
		t.Fatalf("%s: there are floats between Down %x and Up %x", r.Text(), down, up)
	}
	if near != down && near != up {
		t.Fatalf("%s: Near %x is neither Down %x nor Up %x", r.Text(), near, down, up)
	}
	// Where both differ the number is between them, and then it is on the way to both.
	if down != up && (notBelow(down, r) || notAbove(up, r)) {
		t.Fatalf("%s: Down %x and Up %x differ, but one of them is its value", r.Text(), down, up)
	}
}

func TestBracketOfExact(t *testing.T) {
	s := stream(21)
	for range 6000 {
		r := s.number()
		near, _ := Exact(r, api.Near)
		up, _ := Exact(r, api.Up)
		down, _ := Exact(r, api.Down)
		checkBracket(t, r, near, up, down)
	}
}

func TestBracketOfRound(t *testing.T) {
	s := stream(22)
	for range 6000 {
		m, neg := s.wide(), s.bool()
		e := s.exponent(m.Len())
		num, _ := natOf(bigOf(m)).Shl(e)
		den, _ := nat.New(1).Shl(-e)
		r, _ := ratio.New(neg, num, den)
		near, _ := Round(neg, m, e, false, api.Near)
		up, _ := Round(neg, m, e, false, api.Up)
		down, _ := Round(neg, m, e, false, api.Down)
		checkBracket(t, r, near, up, down)
	}
}

// TestOwnValue: a float's own value is rounded to that float, in each mode, without a flag.
func TestOwnValue(t *testing.T) {
	s := stream(23)
	floats := []api.Float{1, 2, 0x000fffffffffffff, 0x0010000000000000, 0x0010000000000001, one - 1, one, one + 1, greatest - 1, greatest}
	for range 4000 {
		floats = append(floats, s.float())
	}
	for _, f := range floats {
		if isFinite(f) && f&^minus != 0 {
			checkOwnValue(t, f)
			checkOwnValue(t, f^minus)
		}
	}
	// The value of both zeros is 0, which has no sign.
	for _, f := range []api.Float{0, minus} {
		value, _ := pattern.Value(f)
		for _, mode := range modes {
			if got, g := Exact(value, mode); got != 0 || g != 0 {
				t.Errorf("the value of %x is rounded to %x, %d", f, got, g)
			}
		}
	}
}

func checkOwnValue(t *testing.T, f api.Float) {
	t.Helper()
	value, _ := pattern.Value(f)
	m, e := pattern.Split(f)
	for _, mode := range modes {
		if got, g := Exact(value, mode); got != f || g != 0 {
			t.Fatalf("the value of %x, mode %d: %x, %d", f, mode, got, g)
		}
		for _, up := range []int{0, 1, 11, 64, 75} { // the same number of other lengths
			if got, g := Round(f&minus != 0, wide.U128{Lo: m}.Shl(up), e-up, false, mode); got != f || g != 0 {
				t.Fatalf("%d * 2^%d from %d bits on, mode %d: %x, %d", m, e, up, mode, got, g)
			}
		}
	}
}

// TestMonotonic: what is greater is not rounded to less.
func TestMonotonic(t *testing.T) {
	s := stream(24)
	var all []ratio.R
	for range 1500 {
		all = append(all, s.number())
	}
	slices.SortFunc(all, ratio.R.Cmp)
	for _, mode := range modes {
		last := pattern.Inf(true)
		for _, r := range all {
			f, _ := Exact(r, mode)
			if pattern.Less(f, last) {
				t.Fatalf("%s, mode %d: %x, after %x", r.Text(), mode, f, last)
			}
			last = f
		}
	}
}

// TestMonotonicSteps goes by small steps over the places where the way of rounding changes.
func TestMonotonicSteps(t *testing.T) {
	for _, x := range []struct {
		m uint64
		e int
	}{{0, -1078}, {1<<55 - 200, -1077}, {1<<57 - 200, -52}, {1<<57 - 200, 967}} {
		for _, mode := range modes {
			last, lastRest := api.Float(0), api.Float(0)
			for i := range uint64(400) {
				m := wide.U128{Lo: x.m + i}
				f, _ := Round(false, m, x.e, false, mode)
				rest, _ := Round(false, m, x.e, true, mode)
				if f < last || f < lastRest || rest < f {
					t.Fatalf("%d * 2^%d, mode %d: %x and %x, after %x and %x", x.m+i, x.e, mode, f, rest, last, lastRest)
				}
				last, lastRest = f, rest
			}
		}
	}
}

// TestSameAgain: a result hangs on the arguments alone, and Frac agrees with Round where both are asked for the same number.
func TestSameAgain(t *testing.T) {
	s := stream(25)
	for range 2000 {
		m, neg, mode := s.wide(), s.bool(), modes[s.below(3)]
		e := s.exponent(m.Len())
		num, den := bigOf(m), big.NewInt(1)
		num.Lsh(num, uint(max(e, 0)))
		den.Lsh(den, uint(max(-e, 0)))
		f, g := Round(neg, m, e, false, mode)
		for range 2 {
			if f1, g1 := Frac(neg, natOf(num), natOf(den), mode); f1 != f || g1 != g {
				t.Fatalf("%x * 2^%d, mode %d: Round %x, %d, Frac %x, %d", m, e, mode, f, g, f1, g1)
			}
		}
	}
}
