package deci

import (
	"math/big"
	"strconv"
	"strings"
	"testing"

	"flyball/api"
)

// TestLiterals: what is read of literals, and of texts that are nearly such, is the machine's.
func TestLiterals(t *testing.T) {
	s := stream(82)
	for range 20000 {
		checkParse(t, s.literal())
	}
	for range 100000 {
		text := []byte{}
		for range s.below(9) {
			text = append(text, "0001257.eE+- x"[s.below(14)])
		}
		checkParse(t, string(text))
	}
}

func checkParse(t *testing.T, text string) {
	t.Helper()
	f, e := Parse(text)
	if want, err := wantParse(text); f != want || e != err {
		t.Fatalf("%q: %x, %v, not %x, %v", text, f, e, want, err)
	}
}

// TestMidway: of two floats that are equally near the even one is read, and what is a little more or less is read as the one on that side.
func TestMidway(t *testing.T) {
	s := stream(83)
	read := 0
	for _, f := range append(edges(), s.floats(4000)...) {
		digits, q, ok := exactDigits(midway(f))
		if !ok {
			continue
		}
		read++
		even := f + f%2
		little := 1 + max(0, 20-len(digits)) // more places, lest one more digit be far from the middle
		for text, want := range map[string]api.Float{digits: even, digits + zeros(little-1) + "1": f + 1, oneLess(digits) + nines(little): f} {
			over := api.OK
			if want == plusInf {
				want, over = 0, api.ErrDeciOver
			}
			literal := text + "e" + strconv.Itoa(q-len(text)+len(digits))
			if got, e := Parse(literal); got != want || e != over {
				t.Fatalf("%s: %x, %v, not %x", literal, got, e, want)
			}
		}
	}
	if read < 1000 {
		t.Fatal("only", read, "literals")
	}
}

// exactDigits are those of a number, and the power of ten that the last one counts, if there are few enough for a literal.
func exactDigits(x *big.Rat) (string, int, bool) {
	places := x.Denom().BitLen() - 1 // of 2^n
	digits := new(big.Rat).Mul(x, pow(10, places)).Num().String()
	short := strings.TrimRight(digits, "0")
	return short, len(digits) - len(short) - places, len(short) < 370
}

// oneLess is the number before that of digits that do not end with a zero.
func oneLess(digits string) string {
	last := len(digits) - 1
	return digits[:last] + string(rune(digits[last]-1))
}

func (s *stream) floats(n int) []api.Float {
	var l []api.Float
	for range n {
		l = append(l, s.float())
	}
	return l
}

// TestShortest: Digits are the chapter's, of all sequences that there are.
func TestShortest(t *testing.T) {
	for _, f := range floats(3000) {
		for _, signed := range []api.Float{f, f | minus} {
			digits, q := Digits(signed)
			if want := wantDigits(f); (sequence{digits, q}) != want {
				t.Fatalf("%x: %s, %d, not %v", signed, digits, q, want)
			}
		}
	}
}

// TestMachine: Digits and Print are the machine's.
func TestMachine(t *testing.T) {
	for _, f := range floats(8000) {
		digits, q := Digits(f)
		if want := machineDigits(f); (sequence{digits, q}) != want {
			t.Fatalf("%x: %s, %d, not %v", f, digits, q, want)
		}
		for _, signed := range []api.Float{f, f | minus} {
			if text := Print(signed); text != machinePrint(signed) {
				t.Fatalf("%x: %s, not %s", signed, text, machinePrint(signed))
			}
		}
	}
}

// TestThereAndBack: what is printed of a finite float is read, without the sign, as its magnitude.
func TestThereAndBack(t *testing.T) {
	for _, f := range append(floats(4000), 0) {
		for _, signed := range []api.Float{f, f | minus} {
			text, neg := strings.CutPrefix(Print(signed), "-")
			if g, e := Parse(text); g != f || e != api.OK || neg != (signed != f) {
				t.Fatalf("%x: %s, and back %x, %v", signed, text, g, e)
			}
		}
	}
}

// TestNoShorter: the digits have no zero at an end and are read as the float; no fewer ones are.
func TestNoShorter(t *testing.T) {
	for _, f := range floats(3000) {
		digits, q := Digits(f)
		if len(digits) == 0 || len(digits) > 17 || strings.Trim(digits, "0") != digits {
			t.Fatalf("%x: %q, %d", f, digits, q)
		}
		if g, e := Parse(digits + "e" + strconv.Itoa(q)); g != f || e != api.OK {
			t.Fatalf("%x: %q, %d, and back %x, %v", f, digits, q, g, e)
		}
		for n := 1; n < len(digits); n++ {
			first, _ := strconv.ParseUint(digits[:n], 10, 64)
			for _, x := range []uint64{first, first + 1} {
				literal := strconv.FormatUint(x, 10) + "e" + strconv.Itoa(q+len(digits)-n)
				if g, _ := Parse(literal); g == f {
					t.Fatalf("%x: %q, %d, but %s is read as it, too", f, digits, q, literal)
				}
			}
		}
	}
}

// TestSameAgain: a result hangs on the arguments alone.
func TestSameAgain(t *testing.T) {
	var first []string
	for again := range 2 {
		s := stream(84)
		for i := range 3000 {
			f, e := Parse(s.literal())
			answer := Print(f) + e.Error() + Print(s.float())
			if again == 0 {
				first = append(first, answer)
			} else if answer != first[i] {
				t.Fatalf("question %d: %s, and before that %s", i, answer, first[i])
			}
		}
	}
}
