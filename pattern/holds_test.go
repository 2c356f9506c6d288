package pattern

import (
	"testing"

	"flyball/api"
)

// TestOneOfThree: of two floats that are not NaN, one is less than the other, or their values are equal.
func TestOneOfThree(t *testing.T) {
	eachPair(func(a, b api.Float) {
		if Class(a) == api.NaN || Class(b) == api.NaN {
			if _, ok := Cmp(a, b); ok || Less(a, b) || Less(b, a) {
				t.Fatalf("%x and %x compare", a, b)
			}
			return
		}
		c, ok := Cmp(a, b)
		back, _ := Cmp(b, a)
		if !ok || back != -c || Less(a, b) != (c < 0) || Less(b, a) != (c > 0) {
			t.Fatalf("%x and %x: Cmp %d, %d, Less %t, %t", a, b, c, back, Less(a, b), Less(b, a))
		}
		if c == 0 && a != b && (Class(a) != api.Zero || Class(b) != api.Zero) {
			t.Fatalf("%x and %x are equal", a, b)
		}
	})
}

func TestOrderHasNoCircle(t *testing.T) {
	s := stream(11)
	for range 50000 {
		a, b, c := s.float(), s.float(), s.float()
		if Less(a, b) && Less(b, c) && !Less(a, c) {
			t.Fatalf("%x, %x and %x go in a circle", a, b, c)
		}
	}
}

// TestNothingBetween: there is no float between a float and its Next, nor between it and its Prev.
func TestNothingBetween(t *testing.T) {
	eachPair(func(a, b api.Float) {
		if Less(a, b) && Less(b, Next(a)) {
			t.Fatalf("%x is between %x and its Next %x", b, a, Next(a))
		}
		if Less(Prev(a), b) && Less(b, a) {
			t.Fatalf("%x is between %x and its Prev %x", b, a, Prev(a))
		}
	})
}

// TestStepsAreSteps: Next is above and Prev is below, and each leads back from the other.
func TestStepsAreSteps(t *testing.T) {
	eachOne(func(f api.Float) {
		if Class(f) == api.NaN {
			return
		}
		if f != Inf(false) && (!Less(f, Next(f)) || cmp0(Prev(Next(f)), f) != 0) {
			t.Fatalf("Next(%x) = %x, and back %x", f, Next(f), Prev(Next(f)))
		}
		if f != Inf(true) && (!Less(Prev(f), f) || cmp0(Next(Prev(f)), f) != 0) {
			t.Fatalf("Prev(%x) = %x, and back %x", f, Prev(f), Next(Prev(f)))
		}
	})
}

func cmp0(a, b api.Float) int {
	c, _ := Cmp(a, b)
	return c
}

// TestNextIsOneUnitOn: the values of a float and its Next differ by the unit of the last bit, so that no other float fits between.
func TestNextIsOneUnitOn(t *testing.T) {
	for _, f := range edges() {
		value, ok := Value(f)
		next, nextOK := Value(Next(f))
		if !ok || !nextOK {
			continue
		}
		gap := next.Sub(value).Text()
		if gap != unitAbove(f) {
			t.Errorf("from %x to %x: %s, not %s", f, Next(f), gap, unitAbove(f))
		}
	}
}

// unitAbove is the unit of the last bit of the floats between f and its Next.
func unitAbove(f api.Float) string {
	if f&minus != 0 && f != minus {
		f-- // towards 0 the lower binade begins at once
	}
	_, e := Split(f)
	if Class(f) == api.Zero {
		e = -1074
	}
	unit, _ := Value(api.Float(1)) // 2^-1074
	for range e + 1074 {
		unit = unit.Add(unit)
	}
	return unit.Text()
}
