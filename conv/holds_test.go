package conv

import (
	"math"
	"math/big"
	"testing"

	"flyball/api"
)

// TestIntegers: FromInt is the rounding of every integer, in each mode, with its flags.
func TestIntegers(t *testing.T) {
	for _, x := range integers() {
		for _, mode := range anyMode {
			f, g := FromInt(x, mode)
			if want, flags := wantFromInt(x, mode); f != want || g != flags {
				t.Fatalf("%d, mode %d: %x with flags %d, not %x with flags %d", x, mode, f, g, want, flags)
			}
		}
		if f, _ := FromInt(x, api.Near); f != bits(float64(x)) {
			t.Fatalf("%d: %x, and the machine's %x", x, f, float64(x))
		}
	}
}

// TestFloats: ToInt32, ToInt64 and Whole of floats of all kinds.
func TestFloats(t *testing.T) {
	for _, f := range floats() {
		x, g := ToInt32(f)
		if want, flags := wantToInt(f, 32); int64(x) != want || g != flags {
			t.Fatalf("ToInt32 of %x: %d with flags %d, not %d with flags %d", f, x, g, want, flags)
		}
		y, g := ToInt64(f)
		if want, flags := wantToInt(f, 64); y != want || g != flags {
			t.Fatalf("ToInt64 of %x: %d with flags %d, not %d with flags %d", f, y, g, want, flags)
		}
		for _, mode := range anyMode {
			w, g := Whole(f, mode)
			if want, flags := wantWhole(f, mode); w != want || g != flags {
				t.Fatalf("Whole of %x, mode %d: %x with flags %d, not %x with flags %d", f, mode, w, g, want, flags)
			}
		}
	}
}

// TestMachine: whole numbers are the machine's.
func TestMachine(t *testing.T) {
	machines := []func(float64) float64{math.RoundToEven, math.Ceil, math.Floor}
	s := stream(73)
	for i := range 300000 {
		f := s.float()
		if math.IsNaN(machine(f)) {
			continue
		}
		if w, _ := Whole(f, api.Mode(i%3)); w != bits(machines[i%3](machine(f))) {
			t.Fatalf("Whole of %x, mode %d: %x", f, i%3, w)
		}
	}
}

// TestThereAndBack: an integer of 32 bits that is made a float and back is unchanged, and nothing is lost on the way, in any mode.
func TestThereAndBack(t *testing.T) {
	check := func(x int32) {
		t.Helper()
		for _, mode := range anyMode[:4] {
			f, g := FromInt(int64(x), mode)
			if y, back := ToInt32(f); y != x || g != 0 || back != 0 {
				t.Fatalf("%d, mode %d: %x with flags %d, and back %d with flags %d", x, mode, f, g, y, back)
			}
		}
	}
	for _, x := range integers() {
		check(int32(x))
	}
	for x := int64(math.MinInt32); x <= math.MaxInt32; x += 65521 {
		check(int32(x))
	}
	for near := range int32(1000) {
		check(near)
		check(-near)
		check(math.MaxInt32 - near)
		check(math.MinInt32 + near)
	}
}

// TestLessThanOne: a truncated value differs from the float by less than 1, is not farther from 0, and is Inexact just if it differs.
func TestLessThanOne(t *testing.T) {
	check := func(f api.Float, x int64, g api.Flags) {
		t.Helper()
		if g == api.Invalid {
			return
		}
		whole := new(big.Rat).SetInt64(x)
		gap := new(big.Rat).Sub(ratOf(f), whole)
		if gap.Abs(gap).Cmp(big.NewRat(1, 1)) >= 0 || (g == api.Inexact) != (gap.Sign() != 0) {
			t.Fatalf("%x truncated: %d with flags %d", f, x, g)
		}
		if whole.Abs(whole).Cmp(new(big.Rat).Abs(ratOf(f))) > 0 || whole.Sign() != 0 && (x < 0) != (f&minus != 0) {
			t.Fatalf("%x truncated: %d, away from 0", f, x)
		}
	}
	for _, f := range floats() {
		x, g := ToInt32(f)
		check(f, int64(x), g)
		y, g := ToInt64(f)
		check(f, y, g)
	}
}

// TestWholeIsWhole: what Whole returns it leaves as it is, in any mode, and it is less than 1 from the float.
func TestWholeIsWhole(t *testing.T) {
	for _, f := range floats() {
		if !isFinite(f) {
			continue
		}
		for _, mode := range anyMode {
			w, _ := Whole(f, mode)
			gap := new(big.Rat).Sub(ratOf(f), ratOf(w))
			if w&minus != f&minus || !ratOf(w).IsInt() || gap.Abs(gap).Cmp(big.NewRat(1, 1)) >= 0 {
				t.Fatalf("Whole of %x, mode %d: %x", f, mode, w)
			}
			for _, again := range anyMode {
				if v, g := Whole(w, again); v != w || g != 0 {
					t.Fatalf("Whole of the whole %x, mode %d: %x with flags %d", w, again, v, g)
				}
			}
		}
	}
}

// TestSameAgain: a result hangs on the arguments alone.
func TestSameAgain(t *testing.T) {
	type results struct {
		from, whole answer
		to32, to64  integer
	}
	ask := func(f api.Float, mode api.Mode) (r results) {
		r.from.f, r.from.g = FromInt(int64(f), mode)
		r.whole.f, r.whole.g = Whole(f, mode)
		r.to32.x, r.to32.g = int32As(f)
		r.to64.x, r.to64.g = ToInt64(f)
		return r
	}
	var first []results
	for again := range 2 {
		s := stream(74)
		for i := range 5000 {
			r := ask(s.float(), anyMode[s.below(len(anyMode))])
			if again == 0 {
				first = append(first, r)
			} else if r != first[i] {
				t.Fatalf("question %d: %v, and before that %v", i, r, first[i])
			}
		}
	}
}
