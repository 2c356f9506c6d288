package lex

import (
	"slices"
	"strings"
	"testing"

	"flyball/api"
)

func word(at int, text string) api.Token {
	return api.Token{Kind: api.KindWord, At: at, Text: text}
}

func name(at int, text string) api.Token {
	return api.Token{Kind: api.KindName, At: at, Text: text}
}

func integer(at int, n int32) api.Token {
	return api.Token{Kind: api.KindInt, At: at, Int: n}
}

func float(at int, x float64) api.Token {
	return api.Token{Kind: api.KindFloat, At: at, Float: floatOf(x)}
}

func sign(at int, text string) api.Token {
	return api.Token{Kind: api.KindSign, At: at, Text: text}
}

func end(at int) api.Token { return api.Token{Kind: api.KindEnd, At: at} }

// checkTokens: Lex returns these tokens, whole, and no error.
func checkTokens(t *testing.T, s string, want ...api.Token) {
	t.Helper()
	if a := lexed(s); !a.same(answer{want, api.OK, 0}) {
		t.Errorf("%q: %v, not %v", s, a, want)
	}
}

// checkError: Lex returns no tokens, and this error.
func checkError(t *testing.T, s string, err api.Errno, at int) {
	t.Helper()
	if a := lexed(s); len(a.tokens) != 0 || a.err != err || a.at != at {
		t.Errorf("%q: %v, not %v at %d", s, a, err, at)
	}
}

func TestExamples(t *testing.T) {
	checkTokens(t, "x=1..3;", name(0, "x"), sign(1, "="), integer(2, 1), sign(3, ".."), integer(5, 3), sign(6, ";"), end(7))
	checkTokens(t, "1.5e3", float(0, 1500), end(5))
	checkTokens(t, "a//b", name(0, "a"), end(4))
	checkError(t, "1.e", api.ErrLexByte, 1)
	checkError(t, "a&b", api.ErrLexByte, 1)
}

func TestSource(t *testing.T) {
	checkTokens(t, "ticks 100;\nvar n: int; // a counter\nstep { n = n + 1; }\n",
		word(0, "ticks"), integer(6, 100), sign(9, ";"),
		word(11, "var"), name(15, "n"), sign(16, ":"), word(18, "int"), sign(21, ";"),
		word(36, "step"), sign(41, "{"), name(43, "n"), sign(45, "="), name(47, "n"), sign(49, "+"), integer(51, 1), sign(52, ";"), sign(54, "}"), end(56))
}

func TestKeywords(t *testing.T) {
	for _, w := range theKeywords {
		checkTokens(t, w, word(0, w), end(len(w)))
		checkTokens(t, w+" "+w, word(0, w), word(len(w)+1, w), end(2*len(w)+1))
		if !IsWord(w) || IsName(w) {
			t.Error(w)
		}
		for _, near := range []string{w + "_", w + "0", "_" + w, w + w, strings.ToUpper(w), strings.ToUpper(w[:1]) + w[1:], w + "s"} {
			checkTokens(t, near, name(0, near), end(len(near)))
			if IsWord(near) || !IsName(near) {
				t.Error(near)
			}
		}
		for _, other := range []string{w + " ", " " + w, w + "\x00", w + "\n", "0" + w, w + "(", w + "//"} {
			if IsWord(other) || IsName(other) {
				t.Errorf("%q", other)
			}
		}
	}
	for _, none := range []string{"", " ", "while", "end", "ticks input", theKeywords[0] + theKeywords[1], "1", "=", "é"} {
		if IsWord(none) {
			t.Errorf("%q", none)
		}
	}
}

func TestNames(t *testing.T) {
	for _, s := range []string{"a", "z", "A", "Z", "_", "__", "a9", "_9", "aZ_09", "e5", "E", "x1e5", strings.Repeat("x", 32), strings.Repeat("_", 32), "i" + strings.Repeat("0", 31)} {
		checkTokens(t, s, name(0, s), end(len(s)))
		if !IsName(s) || IsWord(s) {
			t.Error(s)
		}
	}
	for _, s := range []string{"", "9", "9a", "a-b", "a b", " a", "a ", "a\n", "a.b", "a..b", "+", "a\x00", "\x00a", "é", "aé", "a\xff", "\xc3", "a\u017f", "\u212a", "a\u0661", "a\u00aa", "a//", "//a", strings.Repeat("x", 33), strings.Repeat("x", 32) + " ", strings.Repeat("é", 16), strings.Repeat("x", 20000)} {
		if IsName(s) {
			t.Errorf("%q", s)
		}
	}
	// Each byte, as all of a name and behind another one.
	for b := range 256 {
		s := string([]byte{byte(b)})
		letter := strings.Contains("ABCDEFGHIJKLMNOPQRSTUVWXYZabcdefghijklmnopqrstuvwxyz_", s)
		if IsName(s) != letter {
			t.Errorf("%q", s)
		}
		if IsName("x"+s) != (letter || strings.Contains("0123456789", s)) {
			t.Errorf("x%q", s)
		}
	}
}

func TestNumbers(t *testing.T) {
	for s, want := range map[string]api.Token{
		"0":                               integer(0, 0),
		"000":                             integer(0, 0),
		"7":                               integer(0, 7),
		"1234567890":                      integer(0, 1234567890),
		"2147483647":                      integer(0, 2147483647),
		"0000000000000000000002147483647": integer(0, 2147483647),
		strings.Repeat("0", 399) + "8":    integer(0, 8),
		"010":                             integer(0, 10),

		"0.0":                            float(0, 0),
		"1.5":                            float(0, 1.5),
		"00.50":                          float(0, 0.5),
		"2147483648.0":                   float(0, 2147483648),
		"99999999999e0":                  float(0, 99999999999),
		"1e5":                            float(0, 100000),
		"1E5":                            float(0, 100000),
		"1e+5":                           float(0, 100000),
		"1e-5":                           float(0, 0.00001),
		"1E-05":                          float(0, 0.00001),
		"1.5e3":                          float(0, 1500),
		"1.5E+3":                         float(0, 1500),
		"12.25e-1":                       float(0, 1.225),
		"0.1":                            {Kind: api.KindFloat, Float: 0x3fb999999999999a},
		"0e0":                            float(0, 0),
		"0e999999999999":                 float(0, 0),
		"1e-400":                         float(0, 0),
		"5e-324":                         {Kind: api.KindFloat, Float: 1},
		"1.7976931348623158e308":         {Kind: api.KindFloat, Float: 0x7fefffffffffffff},
		"0." + strings.Repeat("0", 398):  float(0, 0),
		strings.Repeat("0", 397) + "1e2": float(0, 100),
		"1e" + strings.Repeat("0", 398):  float(0, 1),
		"1." + strings.Repeat("9", 398):  float(0, 2),
	} {
		checkTokens(t, s, want, end(len(s)))
	}
}

// TestNumberEnds: a point and an exponent belong to a number only with a digit behind them.
func TestNumberEnds(t *testing.T) {
	checkTokens(t, "1..3", integer(0, 1), sign(1, ".."), integer(3, 3), end(4))
	checkTokens(t, "1..", integer(0, 1), sign(1, ".."), end(3))
	checkTokens(t, "1.5..2.5", float(0, 1.5), sign(3, ".."), float(5, 2.5), end(8))
	checkTokens(t, "1e5..2", float(0, 1e5), sign(3, ".."), integer(5, 2), end(6))
	checkTokens(t, "1e", integer(0, 1), name(1, "e"), end(2))
	checkTokens(t, "1E", integer(0, 1), name(1, "E"), end(2))
	checkTokens(t, "1e+", integer(0, 1), name(1, "e"), sign(2, "+"), end(3))
	checkTokens(t, "1e-x", integer(0, 1), name(1, "e"), sign(2, "-"), name(3, "x"), end(4))
	checkTokens(t, "1e+-5", integer(0, 1), name(1, "e"), sign(2, "+"), sign(3, "-"), integer(4, 5), end(5))
	checkTokens(t, "1e 5", integer(0, 1), name(1, "e"), integer(3, 5), end(4))
	checkTokens(t, "1e+ 5", integer(0, 1), name(1, "e"), sign(2, "+"), integer(4, 5), end(5))
	checkTokens(t, "1ex5", integer(0, 1), name(1, "ex5"), end(4))
	checkTokens(t, "1.5e", float(0, 1.5), name(3, "e"), end(4))
	checkTokens(t, "1.5e3e3", float(0, 1500), name(5, "e3"), end(7))
	checkTokens(t, "1e3e3", float(0, 1000), name(3, "e3"), end(5))
	checkTokens(t, "1e5x", float(0, 1e5), name(3, "x"), end(4))
	checkTokens(t, "1x", integer(0, 1), name(1, "x"), end(2))
	checkTokens(t, "0x10", integer(0, 0), name(1, "x10"), end(4))
	checkTokens(t, "1_000", integer(0, 1), name(1, "_000"), end(5))
	checkTokens(t, "3if", integer(0, 3), word(1, "if"), end(3))
	checkTokens(t, "1 .. 2", integer(0, 1), sign(2, ".."), integer(5, 2), end(6))
	checkTokens(t, "-1", sign(0, "-"), integer(1, 1), end(2))
	checkTokens(t, "1+2", integer(0, 1), sign(1, "+"), integer(2, 2), end(3))
	checkTokens(t, "1e5+2", float(0, 1e5), sign(3, "+"), integer(4, 2), end(5))
	for s, at := range map[string]int{".5": 0, "1.": 1, "1.e5": 1, "1.x": 1, "1. 5": 1, "1.+": 1, "1 .5": 2, "1.5.5": 3, "1e5.5": 3, "1e.5": 2, "1...3": 3, "1.5..5.": 6} {
		checkError(t, s, api.ErrLexByte, at)
	}
}

func TestSigns(t *testing.T) {
	for _, s := range theSigns {
		checkTokens(t, s, sign(0, s), end(len(s)))
		checkTokens(t, "a"+s+"b", name(0, "a"), sign(1, s), name(1+len(s), "b"), end(len(s)+2))
		checkTokens(t, s+" "+s, sign(0, s), sign(len(s)+1, s), end(2*len(s)+1))
	}
	checkTokens(t, "===", sign(0, "=="), sign(2, "="), end(3))
	checkTokens(t, "====", sign(0, "=="), sign(2, "=="), end(4))
	checkTokens(t, "!==", sign(0, "!="), sign(2, "="), end(3))
	checkTokens(t, "<==", sign(0, "<="), sign(2, "="), end(3))
	checkTokens(t, "<=>", sign(0, "<="), sign(2, ">"), end(3))
	checkTokens(t, ">>=", sign(0, ">"), sign(1, ">="), end(3))
	checkTokens(t, "=<", sign(0, "="), sign(1, "<"), end(2))
	checkTokens(t, "=!=", sign(0, "="), sign(1, "!="), end(3))
	checkTokens(t, "!!a", sign(0, "!"), sign(1, "!"), name(2, "a"), end(3))
	checkTokens(t, "= =", sign(0, "="), sign(2, "="), end(3))
	checkTokens(t, "/ /", sign(0, "/"), sign(2, "/"), end(3))
	checkTokens(t, "/*/", sign(0, "/"), sign(1, "*"), sign(2, "/"), end(3))
	checkTokens(t, "....", sign(0, ".."), sign(2, ".."), end(4))
	checkTokens(t, "--+-", sign(0, "-"), sign(1, "-"), sign(2, "+"), sign(3, "-"), end(4))
}

// TestBytes: each byte between two names is white space, a part of a name, a sign, or in error.
func TestBytes(t *testing.T) {
	for b := range 256 {
		s := string([]byte{byte(b)})
		source := "a" + s + "b"
		switch {
		case slices.Contains([]int{9, 10, 13, 32}, b):
			checkTokens(t, source, name(0, "a"), name(2, "b"), end(3))
		case IsName("a" + s):
			checkTokens(t, source, name(0, source), end(3))
		case slices.Contains(theSigns, s):
			checkTokens(t, source, name(0, "a"), sign(1, s), name(2, "b"), end(3))
		default:
			checkError(t, source, api.ErrLexByte, 1)
			checkError(t, s, api.ErrLexByte, 0)
			checkError(t, "a "+s, api.ErrLexByte, 2)
		}
	}
	for s, at := range map[string]int{"&": 0, "|": 0, "& &": 0, "&&&": 2, "|||": 2, "|&": 0, "&=": 0, ".": 0, "...": 2, ". .": 0, "#": 0, "a @": 2, "'a'": 0, "\"": 0, "%": 0, "^": 0, "~": 0, "?": 0, "$a": 0, "\\": 0, "`": 0, "\x00": 0, "é": 0, "aé": 1, "a \xff": 2, "\ufeffa": 0, "a\u00a0b": 1, "a\vb": 1, "a\fb": 1, "\u2028": 0} {
		checkError(t, s, api.ErrLexByte, at)
	}
}

func TestGaps(t *testing.T) {
	checkTokens(t, "", end(0))
	checkTokens(t, " ", end(1))
	checkTokens(t, "\t\n\r \r\n", end(6))
	checkTokens(t, "//", end(2))
	checkTokens(t, "//\n", end(3))
	checkTokens(t, "///", end(3))
	checkTokens(t, "//\n//", end(5))
	checkTokens(t, " // a\n\t//b\r\n x", name(13, "x"), end(14))
	checkTokens(t, "// a", end(4))
	checkTokens(t, "a//b\nc", name(0, "a"), name(5, "c"), end(6))
	checkTokens(t, "a//b//c\nd", name(0, "a"), name(8, "d"), end(9))
	checkTokens(t, "//a\rb", end(5)) // 13 ends no comment
	checkTokens(t, "//a\r\nb", name(5, "b"), end(6))
	checkTokens(t, "//& \xff\x00 é .\nb", name(12, "b"), end(13))
	checkTokens(t, "//"+strings.Repeat("9", 500)+"\n1", integer(503, 1), end(504))
	checkTokens(t, "//"+strings.Repeat("x", 40), end(42))
	checkTokens(t, "a///b", name(0, "a"), end(5))
	checkTokens(t, "a/ /b", name(0, "a"), sign(1, "/"), sign(3, "/"), name(4, "b"), end(5))
	checkTokens(t, "a /\n/ b", name(0, "a"), sign(2, "/"), sign(4, "/"), name(6, "b"), end(7))
	checkTokens(t, "1//2", integer(0, 1), end(4))
	checkError(t, "1.//5\n5", api.ErrLexByte, 1)
}

// TestLimits: what is just short enough, and what is too long.
func TestLimits(t *testing.T) {
	x32, x33 := strings.Repeat("x", 32), strings.Repeat("x", 33)
	checkTokens(t, x32+" "+x32, name(0, x32), name(33, x32), end(65))
	checkError(t, x33, api.ErrLexLong, 0)
	checkError(t, "a = "+x33, api.ErrLexLong, 4)
	checkError(t, "ticks"+strings.Repeat("_", 28), api.ErrLexLong, 0)
	checkError(t, x32+"é", api.ErrLexByte, 32)

	nines := strings.Repeat("9", 400)
	checkError(t, nines, api.ErrLexInt, 0)
	checkError(t, nines+"9", api.ErrLexLong, 0)
	checkError(t, strings.Repeat("0", 401), api.ErrLexLong, 0)
	checkTokens(t, strings.Repeat("0", 400), integer(0, 0), end(400))
	checkTokens(t, "1."+strings.Repeat("0", 398), float(0, 1), end(400))
	checkError(t, "1."+strings.Repeat("0", 399), api.ErrLexLong, 0)
	checkError(t, " 1e"+strings.Repeat("0", 399), api.ErrLexLong, 1)
	checkError(t, " 1e"+strings.Repeat("9", 398), api.ErrLexFloat, 1)
	checkError(t, " 1e"+strings.Repeat("9", 399), api.ErrLexLong, 1)
	checkError(t, nines[:399]+".5", api.ErrLexLong, 0)
	checkTokens(t, strings.Repeat("0", 400)+"e", integer(0, 0), name(400, "e"), end(401))
	checkTokens(t, strings.Repeat("0", 400)+"..5", integer(0, 0), sign(400, ".."), integer(402, 5), end(403))

	checkTokens(t, strings.Repeat(" ", 16384), end(16384))
	checkError(t, strings.Repeat(" ", 16385), api.ErrLexLong, 0)
	checkTokens(t, "//"+strings.Repeat("/", 16382), end(16384))
	checkError(t, "//"+strings.Repeat("/", 16383), api.ErrLexLong, 0)
	checkError(t, "&"+strings.Repeat(" ", 16383), api.ErrLexByte, 0)
	checkError(t, "  &"+strings.Repeat(" ", 16382), api.ErrLexLong, 0)
	checkTokens(t, strings.Repeat(" ", 16383)+"x", name(16383, "x"), end(16384))
	checkError(t, strings.Repeat(" ", 16383)+"&", api.ErrLexByte, 16383)
	checkError(t, strings.Repeat("x", 16384), api.ErrLexLong, 0)
	if a := lexed(strings.Repeat("+", 16384)); len(a.tokens) != 16385 || a.err != api.OK {
		t.Error(len(a.tokens), a.err)
	}
}

// TestGreat: integers and floats that are too great, and those that just are not.
func TestGreat(t *testing.T) {
	for _, s := range []string{"2147483648", "02147483648", "2147483650", "3000000000", "4294967296", "4294967297", "9223372036854775808", "18446744073709551616", "18446744073709551617", "10000000000"} {
		checkError(t, s, api.ErrLexInt, 0)
		checkError(t, "x = -"+s+";", api.ErrLexInt, 5)
		checkError(t, s+".", api.ErrLexInt, 0)
	}
	for _, s := range []string{"1e309", "1E+309", "2e308", "1.7976931348623159e308", "1e99999999999999999999", strings.Repeat("9", 310) + ".5", strings.Repeat("1", 398) + "e0"} {
		checkError(t, s, api.ErrLexFloat, 0)
		checkError(t, "x = -"+s+";", api.ErrLexFloat, 5)
	}
}

// TestFirstError: of several errors the first one counts, whatever they are.
func TestFirstError(t *testing.T) {
	long := strings.Repeat("x", 33)
	checkError(t, "a & 2147483648 1e309 "+long, api.ErrLexByte, 2)
	checkError(t, "a 2147483648 & 1e309 "+long, api.ErrLexInt, 2)
	checkError(t, "a 1e309 2147483648 & "+long, api.ErrLexFloat, 2)
	checkError(t, "a "+long+" 1e309 2147483648 &", api.ErrLexLong, 2)
	checkError(t, "// & "+long+"\n 1e309 &", api.ErrLexFloat, 40)
}
