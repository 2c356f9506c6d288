package nat

import (
	"math"
	"math/big"
	"slices"
	"strings"
	"testing"

	"flyball/api"
)

const top = math.MaxUint32

// edgeWords make the numbers on which carries, borrows and wrong guesses are most frequent.
var edgeWords = []uint32{0, 1, 1<<31 - 1, 1 << 31, top - 1, top}

// edgeCounts has shifts and positions around a word's end, and those that no number of bits reaches.
var edgeCounts = []int{math.MinInt, -64, -32, -1, 0, 1, 2, 31, 32, 33, 63, 64, 65, 95, 96, 97, 127, 128, 129, 200, 1 << 40, math.MaxInt - 1, math.MaxInt}

// lists has every list of edgeWords with that many words, those with zero words at the end among them.
func lists(size int) []Nat {
	all := []Nat{{}}
	for range size {
		var longer []Nat
		for _, a := range all {
			for _, w := range edgeWords {
				longer = append(longer, append(slices.Clone(a), w))
			}
		}
		all = longer
	}
	return all
}

func shortLists() []Nat {
	all := []Nat{nil}
	for size := range 4 {
		all = append(all, lists(size)...)
	}
	return all
}

// stream makes words from a fixed start, so that a failure can be had again.
type stream uint64

func (s *stream) next() uint64 {
	x := uint64(*s)
	x ^= x << 13
	x ^= x >> 7
	x ^= x << 17
	*s = stream(x)
	return x * 0x9e3779b97f4a7c15 >> 16
}

// word is now and then one of the edges.
func (s *stream) word() uint32 {
	if s.next()%3 == 0 {
		return edgeWords[s.next()%uint64(len(edgeWords))]
	}
	return uint32(s.next())
}

// nat has up to that many words, and often zero words at the end.
func (s *stream) nat(most int) Nat {
	a := make(Nat, s.next()%uint64(most+1))
	for i := range a {
		a[i] = s.word()
	}
	for range s.next() % 3 {
		a = append(a, 0)
	}
	return a
}

func (a Nat) big() *big.Int {
	x := new(big.Int)
	for i := range a {
		x.Lsh(x, 32)
		x.Or(x, big.NewInt(int64(a[len(a)-1-i])))
	}
	return x
}

func power(base, exponent int64) *big.Int {
	return new(big.Int).Exp(big.NewInt(base), big.NewInt(exponent), nil)
}

// fromBig builds a number without the functions that are tested.
func fromBig(x *big.Int) Nat {
	var a Nat
	for rest := new(big.Int).Set(x); rest.Sign() > 0; rest.Rsh(rest, 32) {
		a = append(a, uint32(new(big.Int).And(rest, big.NewInt(top)).Uint64()))
	}
	return a
}

// checkIs also checks that there is no zero word at the end.
func checkIs(t *testing.T, what string, got Nat, want *big.Int) {
	t.Helper()
	if len(got) > 0 && got[len(got)-1] == 0 {
		t.Fatalf("%s: a zero word at the end of %v", what, got)
	}
	if got.big().Cmp(want) != 0 {
		t.Fatalf("%s: %v, not %v", what, got, fromBig(want))
	}
}

func checkErr(t *testing.T, what string, got, want api.Errno) {
	t.Helper()
	if got != want {
		t.Fatalf("%s: %v, not %v", what, got, want)
	}
}

func TestErrorNumbers(t *testing.T) {
	if api.ErrNatLong != 20 || api.ErrNatZero != 21 || api.ErrNatText != 22 || api.MaxNat != 65536 {
		t.Error(api.ErrNatLong, api.ErrNatZero, api.ErrNatText, api.MaxNat)
	}
}

func TestNew(t *testing.T) {
	for _, x := range []struct {
		from uint64
		want Nat
	}{
		{0, nil},
		{1, Nat{1}},
		{top, Nat{top}},
		{1 << 32, Nat{0, 1}},
		{1<<32 + 7, Nat{7, 1}},
		{math.MaxUint64, Nat{top, top}},
	} {
		if got := New(x.from); !slices.Equal(got, x.want) {
			t.Errorf("New(%d) = %v", x.from, got)
		}
	}
}

func checkAddSub(t *testing.T, a, b Nat) {
	t.Helper()
	x, y := a.big(), b.big()
	checkIs(t, "Add", a.Add(b), new(big.Int).Add(x, y))
	if c := a.Cmp(b); c != x.Cmp(y) {
		t.Fatalf("%v.Cmp(%v) = %d", a, b, c)
	}
	rest, ok := a.Sub(b)
	if x.Cmp(y) < 0 {
		if ok || len(rest) != 0 {
			t.Fatalf("%v.Sub(%v) = %v, %t", a, b, rest, ok)
		}
		return
	}
	if !ok {
		t.Fatalf("%v.Sub(%v) has no difference", a, b)
	}
	checkIs(t, "Sub", rest, new(big.Int).Sub(x, y))
}

func checkMulDiv(t *testing.T, a, b Nat) {
	t.Helper()
	x, y := a.big(), b.big()
	checkIs(t, "Mul", a.Mul(b), new(big.Int).Mul(x, y))
	q, r, e := a.Div(b)
	if y.Sign() == 0 {
		if len(q) != 0 || len(r) != 0 || e != api.ErrNatZero {
			t.Fatalf("%v.Div(%v) = %v, %v, %v", a, b, q, r, e)
		}
		return
	}
	checkErr(t, "Div", e, api.OK)
	wantQ, wantR := new(big.Int).QuoRem(x, y, new(big.Int))
	checkIs(t, "quotient", q, wantQ)
	checkIs(t, "remainder", r, wantR)
}

func TestPairsOfEdges(t *testing.T) {
	all := shortLists()
	for _, a := range all {
		for _, b := range all {
			checkAddSub(t, a, b)
			checkMulDiv(t, a, b)
		}
	}
}

func TestPairsOfAStream(t *testing.T) {
	s := stream(1)
	for range 20000 {
		a, b := s.nat(12), s.nat(12)
		checkAddSub(t, a, b)
		checkMulDiv(t, a, b)
		checkAddSub(t, a, append(slices.Clone(a), 0))
		checkMulDiv(t, a, a)
	}
	for range 20 {
		a, b := s.nat(900), s.nat(500)
		checkAddSub(t, a, b)
		checkMulDiv(t, a, b)
	}
}

func TestSubExamples(t *testing.T) {
	if d, ok := New(7).Sub(New(9)); len(d) != 0 || ok {
		t.Error(d, ok)
	}
	if d, ok := New(9).Sub(New(9)); len(d) != 0 || !ok {
		t.Error(d, ok)
	}
	if d, ok := (Nat{0, 0, 1}).Sub(New(1)); !slices.Equal(d, Nat{top, top}) || !ok {
		t.Error(d, ok)
	}
	if d, ok := (Nat{}).Sub(Nat{0, 0}); len(d) != 0 || !ok {
		t.Error(d, ok)
	}
}

// TestDivEdges has long dividends, whose quotients have words at both ends of what a word may be.
func TestDivEdges(t *testing.T) {
	divisors := append(lists(2), lists(3)...)
	for _, a := range lists(4) {
		for _, b := range divisors {
			checkMulDiv(t, a, b)
		}
	}
}

// TestDivNearProducts has dividends just below, at and above a multiple, where a guessed word of the quotient is wrong most often.
func TestDivNearProducts(t *testing.T) {
	s := stream(2)
	one := New(1)
	for range 10000 {
		b, q := s.nat(5), s.nat(5)
		product := fromBig(new(big.Int).Mul(b.big(), q.big()))
		checkMulDiv(t, product, b)
		checkMulDiv(t, fromBig(new(big.Int).Add(product.big(), one.big())), b)
		if len(product) > 0 {
			checkMulDiv(t, fromBig(new(big.Int).Sub(product.big(), one.big())), b)
		}
	}
}

func TestDivByZero(t *testing.T) {
	for _, a := range []Nat{nil, {}, {0, 0}, {5}, {0, 0, 1}} {
		for _, b := range []Nat{nil, {}, {0}, {0, 0, 0}} {
			if q, r, e := a.Div(b); len(q) != 0 || len(r) != 0 || e != api.ErrNatZero {
				t.Errorf("%v.Div(%v) = %v, %v, %v", a, b, q, r, e)
			}
		}
	}
}

func checkBits(t *testing.T, a Nat) {
	t.Helper()
	x := a.big()
	if n := a.Len(); n != x.BitLen() {
		t.Fatalf("%v.Len() = %d", a, n)
	}
	for _, i := range edgeCounts {
		want := uint(0)
		if i >= 0 && i < 1000 {
			want = x.Bit(i)
		}
		if got := a.Bit(i); got != want {
			t.Fatalf("%v.Bit(%d) = %d", a, i, got)
		}
	}
	value, ok := a.Uint()
	if ok != x.IsUint64() || ok && value != x.Uint64() || !ok && value != 0 {
		t.Fatalf("%v.Uint() = %d, %t", a, value, ok)
	}
}

func checkShifts(t *testing.T, a Nat, n int) {
	t.Helper()
	x := a.big()
	near := uint(min(max(n, 0), 1<<17))
	checkIs(t, "Shr", a.Shr(n), new(big.Int).Rsh(x, near))
	high, e := a.Shl(n)
	if x.Sign() != 0 && x.BitLen()+int(near) > 65536 {
		if len(high) != 0 || e != api.ErrNatLong {
			t.Fatalf("%v.Shl(%d): %v, %v", a, n, high, e)
		}
		return
	}
	checkErr(t, "Shl", e, api.OK)
	checkIs(t, "Shl", high, new(big.Int).Lsh(x, near))
}

func TestBitsAndShifts(t *testing.T) {
	s := stream(3)
	all := append(shortLists(), lists(4)...)
	for range 500 {
		all = append(all, s.nat(20))
	}
	for _, a := range all {
		checkBits(t, a)
		for _, n := range edgeCounts {
			checkShifts(t, a, n)
		}
	}
}

func TestEveryShift(t *testing.T) {
	a := Nat{5, top, 1 << 31, 0x12345678, 0, 0}
	for n := range 200 {
		checkShifts(t, a, n)
	}
	for i := range 200 {
		if got := a.Bit(i); got != a.big().Bit(i) {
			t.Errorf("Bit(%d) = %d", i, got)
		}
	}
}

func TestShlAtItsLimit(t *testing.T) {
	for _, x := range []struct {
		a  Nat
		n  int
		ok bool
	}{
		{New(1), 65535, true},
		{New(1), 65536, false},
		{Nat{1, 0, 0}, 65535, true},
		{New(3), 65534, true},
		{New(3), 65535, false},
		{New(1), math.MaxInt, false},
		{Nat{0, 0, 1}, math.MaxInt - 1, false},
		{New(1), math.MinInt, true},
		{nil, math.MaxInt, true},
		{Nat{0, 0}, 65537, true},
		{slices.Repeat(Nat{top}, 2048), 0, true},
		{slices.Repeat(Nat{top}, 2048), -1, true},
		{slices.Repeat(Nat{top}, 2048), 1, false},
		{append(make(Nat, 2048), 1), 0, false},
		{append(make(Nat, 2048), 1), -7, false},
		{append(slices.Repeat(Nat{top}, 2048), 0, 0), 0, true},
	} {
		got, e := x.a.Shl(x.n)
		if x.ok {
			checkErr(t, "Shl", e, api.OK)
			checkIs(t, "Shl", got, new(big.Int).Lsh(x.a.big(), uint(min(max(x.n, 0), 70000))))
		} else if len(got) != 0 || e != api.ErrNatLong {
			t.Errorf("a number of %d bits, Shl(%d): %d words, %v", x.a.Len(), x.n, len(got), e)
		}
	}
}

func TestUintAtItsLimit(t *testing.T) {
	for _, x := range []struct {
		a    Nat
		want uint64
		ok   bool
	}{
		{nil, 0, true},
		{Nat{0}, 0, true},
		{Nat{9}, 9, true},
		{Nat{1, 2}, 1 + 2<<32, true},
		{Nat{top, top}, math.MaxUint64, true},
		{Nat{top, top, 0, 0}, math.MaxUint64, true},
		{Nat{0, 0, 1}, 0, false},
		{Nat{top, top, 1}, 0, false},
		{Nat{0, 0, 0, 1}, 0, false},
	} {
		if got, ok := x.a.Uint(); got != x.want || ok != x.ok {
			t.Errorf("%v.Uint() = %d, %t", x.a, got, ok)
		}
	}
}

func checkGcd(t *testing.T, a, b Nat) {
	t.Helper()
	want := new(big.Int).GCD(nil, nil, a.big(), b.big())
	checkIs(t, "Gcd", a.Gcd(b), want)
	checkIs(t, "Gcd", b.Gcd(a), want)
}

func TestGcd(t *testing.T) {
	if g := New(12).Gcd(New(18)); !slices.Equal(g, Nat{6}) {
		t.Error(g)
	}
	some := append(lists(1), lists(2)...)
	for _, a := range append([]Nat{nil, {}, {12}, {18}, {0, 0, 0, 3}, {0, 1 << 7}}, some...) {
		for _, b := range shortLists() {
			checkGcd(t, a, b)
		}
	}
	s := stream(4)
	for range 2000 {
		a, b, c := s.nat(6), s.nat(6), s.nat(6)
		checkGcd(t, a, b)
		checkGcd(t, fromBig(new(big.Int).Mul(a.big(), c.big())), fromBig(new(big.Int).Mul(b.big(), c.big())))
		checkGcd(t, a, fromBig(power(2, int64(s.next()%300))))
	}
	checkGcd(t, fromBig(power(2, 100000)), fromBig(power(2, 70000)))
	checkGcd(t, fromBig(power(6, 2000)), fromBig(power(10, 1500)))
}

func TestText(t *testing.T) {
	for _, x := range []struct {
		a    Nat
		want string
	}{
		{nil, "0"},
		{Nat{}, "0"},
		{Nat{0, 0}, "0"},
		{Nat{7}, "7"},
		{Nat{10, 0}, "10"},
		{Nat{999999999}, "999999999"},
		{Nat{1000000000}, "1000000000"},
		{Nat{1000000001, 0}, "1000000001"},
		{Nat{top}, "4294967295"},
		{Nat{0, 1}, "4294967296"},
		{Nat{top, top}, "18446744073709551615"},
		{Nat{0, 0, 0, 0, 1}, "340282366920938463463374607431768211456"},
	} {
		if got := x.a.Text(); got != x.want {
			t.Errorf("%v.Text() = %s", x.a, got)
		}
	}
	s := stream(5)
	for range 3000 {
		if a := s.nat(20); a.Text() != a.big().String() {
			t.Fatalf("%v.Text() = %s", a, a.Text())
		}
	}
	for n := range int64(60) {
		for _, d := range []int64{-1, 0, 1} {
			x := new(big.Int).Add(power(10, n), big.NewInt(d))
			if got := fromBig(x).Text(); got != x.String() {
				t.Errorf("%v is told as %s", x, got)
			}
		}
	}
}

func TestParse(t *testing.T) {
	for _, x := range []struct {
		s    string
		want Nat
	}{
		{"0", nil},
		{"000000000000", nil},
		{"7", Nat{7}},
		{"007", Nat{7}},
		{"999999999", Nat{999999999}},
		{"1000000000", Nat{1000000000}},
		{"0000000001000000000", Nat{1000000000}},
		{"4294967295", Nat{top}},
		{"4294967296", Nat{0, 1}},
		{"00340282366920938463463374607431768211456", Nat{0, 0, 0, 0, 1}},
	} {
		got, e := Parse(x.s)
		if !slices.Equal(got, x.want) || e != api.OK {
			t.Errorf("Parse(%s) = %v, %v", x.s, got, e)
		}
	}
	s := stream(6)
	for range 3000 {
		a := s.nat(20)
		got, e := Parse(strings.Repeat("0", int(s.next()%12)) + a.big().String())
		checkErr(t, "Parse", e, api.OK)
		checkIs(t, "Parse", got, a.big())
	}
}

func TestParseWrongTexts(t *testing.T) {
	wrong := []string{"", " ", "-", "-1", "+1", " 1", "1 ", "1a", "a1", "1_000", "0x10", "1.0", "1e3", "12345678901234567890x", "x12345678901234567890", "\u0661", "1\x00"}
	for b := range 256 {
		if b < '0' || b > '9' {
			wrong = append(wrong, string([]byte{byte(b)}), string([]byte{'1', byte(b), '2'}))
		}
	}
	for _, s := range wrong {
		if a, e := Parse(s); len(a) != 0 || e != api.ErrNatText {
			t.Errorf("Parse(%q) = %v, %v", s, a, e)
		}
	}
}

// TestParseAtItsLimit: the bytes are counted before they are looked at, leading zeros among them, and the bits not at all.
func TestParseAtItsLimit(t *testing.T) {
	nines := strings.Repeat("9", 20000)
	a, e := Parse(nines)
	checkErr(t, "20000 nines", e, api.OK)
	checkIs(t, "20000 nines", a, new(big.Int).Sub(power(10, 20000), big.NewInt(1)))
	if a.Len() <= api.MaxNat || a.Text() != nines {
		t.Error("20000 nines are told differently")
	}
	zeros := strings.Repeat("0", 19999)
	if a, e := Parse(zeros + "5"); !slices.Equal(a, Nat{5}) || e != api.OK {
		t.Error(a, e)
	}
	if a, e := Parse(zeros + "x"); len(a) != 0 || e != api.ErrNatText {
		t.Error(a, e)
	}
	for _, s := range []string{nines + "9", zeros + "05", zeros + "xx", strings.Repeat("x", 100000)} {
		if a, e := Parse(s); len(a) != 0 || e != api.ErrNatLong {
			t.Errorf("%d bytes: %v, %v", len(s), a, e)
		}
	}
}

func TestPow(t *testing.T) {
	for _, x := range []uint64{0, 1, 2, 3, 7, 10, 1 << 31, 1 << 32, 1<<32 + 1, math.MaxUint64} {
		for n := range 70 {
			got, e := Pow(x, n)
			checkErr(t, "Pow", e, api.OK)
			checkIs(t, "Pow", got, new(big.Int).Exp(New(x).big(), big.NewInt(int64(n)), nil))
		}
		for _, n := range []int{0, -1, -65536, math.MinInt} {
			if got, e := Pow(x, n); !slices.Equal(got, Nat{1}) || e != api.OK {
				t.Errorf("Pow(%d, %d) = %v, %v", x, n, got, e)
			}
		}
	}
	for _, n := range []int{1, 1000, 65536, 1 << 40, math.MaxInt} {
		if got, e := Pow(0, n); len(got) != 0 || e != api.OK {
			t.Errorf("Pow(0, %d) = %v, %v", n, got, e)
		}
		if got, e := Pow(1, n); !slices.Equal(got, Nat{1}) || e != api.OK {
			t.Errorf("Pow(1, %d) = %v, %v", n, got, e)
		}
	}
}

// TestPowAtItsLimit finds, for each x, the greatest n whose power has at most 65536 bits.
func TestPowAtItsLimit(t *testing.T) {
	for _, x := range []uint64{2, 3, 4, 5, 6, 7, 10, 1<<16 - 1, 1 << 16, 1<<32 - 1, 1 << 32, 1<<63 - 1, 1 << 63, 1<<63 + 1, math.MaxUint64} {
		base := New(x).big()
		last := 65535 / base.BitLen()
		want := new(big.Int).Exp(base, big.NewInt(int64(last)), nil)
		for next := new(big.Int).Mul(want, base); next.BitLen() <= 65536; next = new(big.Int).Mul(want, base) {
			want = next
			last++
		}
		got, e := Pow(x, last)
		checkErr(t, "Pow", e, api.OK)
		checkIs(t, "Pow", got, want)
		for _, n := range []int{last + 1, last + 2, 2 * last, 65536, 1 << 40, math.MaxInt} {
			if got, e := Pow(x, n); len(got) != 0 || e != api.ErrNatLong {
				t.Errorf("Pow(%d, %d): %d words, %v", x, n, len(got), e)
			}
		}
	}
	if a, e := Pow(2, 65535); a.Len() != 65536 || e != api.OK {
		t.Error(a.Len(), e)
	}
	if a, e := Pow(math.MaxUint64, 1024); a.Len() != 65536 || e != api.OK {
		t.Error(a.Len(), e)
	}
}
