package lex

import (
	"slices"
	"strings"
	"testing"

	"flyball/api"
)

func checkLex(t *testing.T, s string) {
	t.Helper()
	if a, want := lexed(s), wantLex(s); !a.same(want) {
		t.Fatalf("%q: %v, not %v", s, a, want)
	}
}

// eachText calls check for all texts of at most so many of the letters.
func eachText(size int, letters string, check func(string)) {
	all := []string{""}
	for range size + 1 {
		var longer []string
		for _, s := range all {
			check(s)
			for i := range len(letters) {
				longer = append(longer, s+letters[i:i+1])
			}
		}
		all = longer
	}
}

// TestShortTexts: all texts of bytes that matter beside one another.
func TestShortTexts(t *testing.T) {
	check := func(s string) { checkLex(t, s) }
	eachText(4, "a_0.eE+-=<!&|/ \n", check)
	eachText(6, "1.e+", check)
	eachText(7, "/\na", check)
	for b := range 65536 {
		check(string([]byte{byte(b >> 8), byte(b)}))
	}
}

// TestSources: sources of tokens and gaps, and of any bytes.
func TestSources(t *testing.T) {
	s := stream(91)
	for range 20000 {
		checkLex(t, s.source(s.below(12)))
	}
	for range 20000 {
		checkLex(t, s.text(s.below(30), "abinfortue_0123456789..eE+-=<>!&&||//()[]{},;:* \t\n\r"))
	}
	for range 100 {
		checkLex(t, s.source(500))
	}
}

// part is a token's text, and the gap ahead of it.
type part struct{ gap, text string }

// parts takes a source apart, as its tokens tell.
func parts(t *testing.T, source string, tokens []api.Token) []part {
	t.Helper()
	var l []part
	at := 0
	for _, x := range tokens {
		text := x.Text
		if x.Kind == api.KindInt || x.Kind == api.KindFloat {
			text = numberForm.FindString(source[x.At:])
		}
		if x.At < at || !strings.HasPrefix(source[x.At:], text) || (text == "") != (x.Kind == api.KindEnd) {
			t.Fatalf("%q: %v is not there", source, x)
		}
		l = append(l, part{source[at:x.At], text})
		at = x.At + len(text)
	}
	if at != len(source) || tokens[len(tokens)-1] != end(at) {
		t.Fatalf("%q: the end is not the last one of %v", source, tokens)
	}
	return l
}

// eachSource calls check for sources without an error.
func eachSource(t *testing.T, seed stream, check func(s *stream, source string, tokens []api.Token)) {
	t.Helper()
	whole := 0
	for range 4000 {
		source := seed.source(seed.below(30))
		if tokens, err, _ := Lex(source); err == api.OK {
			whole++
			check(&seed, source, tokens)
		}
	}
	if whole < 1000 {
		t.Fatal("only", whole, "sources")
	}
}

// TestOnlyGaps: a token is what the source has at its offset, and only gaps come between two, before the first and behind the last one.
func TestOnlyGaps(t *testing.T) {
	eachSource(t, 92, func(_ *stream, source string, tokens []api.Token) {
		for _, p := range parts(t, source, tokens) {
			if gapForm.FindString(p.gap) != p.gap {
				t.Fatalf("%q: %q ahead of %q", source, p.gap, p.text)
			}
		}
	})
}

// TestWhiteSpace: white space that is inserted between tokens moves them, and does not change them; nor does another gap in the place of one.
func TestWhiteSpace(t *testing.T) {
	eachSource(t, 93, func(s *stream, source string, tokens []api.Token) {
		behind, ahead, instead := "", "", ""
		for _, p := range parts(t, source, tokens) {
			white := s.text(1+s.below(3), "\t\n\r ")
			behind += white + p.gap + p.text
			ahead += p.gap + white + p.text
			instead += white + s.gap() + p.text
		}
		for _, other := range []string{behind, ahead, instead} {
			if !sameButAt(tokens, other) {
				t.Fatalf("%q: not so in %q", source, other)
			}
		}
	})
}

// sameButAt reports whether a source has the tokens, wherever they are.
func sameButAt(tokens []api.Token, source string) bool {
	others, err, _ := Lex(source)
	if err != api.OK {
		return false
	}
	return slices.EqualFunc(tokens, others, func(x, y api.Token) bool {
		x.At = y.At
		return x == y
	})
}

// TestJudges: a token is a keyword or a name just if its text is one.
func TestJudges(t *testing.T) {
	s := stream(94)
	check := func(text string) {
		word := slices.Contains(theKeywords, text)
		name := wordForm.FindString(text) == text && text != "" && len(text) <= 32 && !word
		if IsWord(text) != word || IsName(text) != name {
			t.Fatalf("%q: %v, %v", text, IsWord(text), IsName(text))
		}
		if a := lexed(text); name != a.same(answer{[]api.Token{{Kind: api.KindName, Text: text}, end(len(text))}, api.OK, 0}) {
			t.Fatalf("%q: %v", text, a)
		}
	}
	eachText(4, "inft_1 é", check)
	for range 20000 {
		check(s.text(s.below(36), "abinfot_09"))
		check(s.text(s.below(36), "abinfot_09 -.\xff"))
		check(s.token())
	}
}

// TestSameAgain: a result hangs on the arguments alone, and is new memory.
func TestSameAgain(t *testing.T) {
	s := stream(95)
	for range 500 {
		source := s.source(s.below(30))
		first := lexed(source)
		kept := slices.Clone(first.tokens)
		clear(first.tokens)
		if again := lexed(source); !slices.Equal(again.tokens, kept) || again.err != first.err || again.at != first.at {
			t.Fatalf("%q: %v, and before that %v", source, again, kept)
		}
	}
}

// TestLongest: sources as long as they may be, of one kind of token each, come to an end.
func TestLongest(t *testing.T) {
	for _, part := range []string{"x ", "ticks ", "7 ", "1e-300 ", "1.7976931348623157e308 ", "==", "(", "/ ", "// x\n", "\t", "1e", strings.Repeat("9", 396) + "e-90 ", "é", "0", "a", "."} {
		checkLex(t, strings.Repeat(part, 16384/len(part)))
	}
}
