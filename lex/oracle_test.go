package lex

import (
	"math"
	"regexp"
	"slices"
	"strconv"
	"strings"

	"flyball/api"
)

// This file says again what the tokens are, in the words of the chapter, with regular expressions and the machine's floats: the tests hold the package against it.

var (
	gapForm    = regexp.MustCompile(`^(?:[\x09\x0a\x0d\x20]|//[^\x0a]*(?:\x0a|$))*`)
	wordForm   = regexp.MustCompile(`^[A-Za-z_][A-Za-z0-9_]*`)
	numberForm = regexp.MustCompile(`^[0-9]+(\.[0-9]+)?([eE][+-]?[0-9]+)?`)
)

var theKeywords = []string{"ticks", "input", "var", "init", "step", "if", "else", "for", "true", "false", "int", "float", "bool", "abs", "in"}

var theSigns = []string{"(", ")", "[", "]", "{", "}", ",", ";", ":", "=", "==", "!=", "<", "<=", ">", ">=", "+", "-", "*", "/", "&&", "||", "!", ".."}

// answer is what Lex returns.
type answer struct {
	tokens []api.Token
	err    api.Errno
	at     int
}

func lexed(s string) answer {
	tokens, err, at := Lex(s)
	return answer{tokens, err, at}
}

func (a answer) same(b answer) bool {
	return slices.Equal(a.tokens, b.tokens) && a.err == b.err && a.at == b.at
}

func wantLex(s string) answer {
	if len(s) > 16384 {
		return answer{nil, api.ErrLexLong, 0}
	}
	var tokens []api.Token
	at := 0
	for {
		at += len(gapForm.FindString(s[at:]))
		if at == len(s) {
			return answer{append(tokens, api.Token{At: at}), api.OK, 0}
		}
		token, size, err := wantToken(s[at:])
		if err != api.OK {
			return answer{nil, err, at}
		}
		token.At = at
		tokens = append(tokens, token)
		at += size
	}
}

func wantToken(s string) (api.Token, int, api.Errno) {
	if text := wordForm.FindString(s); text != "" {
		kind := api.KindName
		if slices.Contains(theKeywords, text) {
			kind = api.KindWord
		}
		if len(text) > 32 {
			return api.Token{}, 0, api.ErrLexLong
		}
		return api.Token{Kind: kind, Text: text}, len(text), api.OK
	}
	if text := numberForm.FindString(s); text != "" {
		token, err := wantNumber(text)
		return token, len(text), err
	}
	longest := ""
	for _, sign := range theSigns {
		if strings.HasPrefix(s, sign) && len(sign) > len(longest) {
			longest = sign
		}
	}
	if longest == "" {
		return api.Token{}, 0, api.ErrLexByte
	}
	return api.Token{Kind: api.KindSign, Text: longest}, len(longest), api.OK
}

func wantNumber(text string) (api.Token, api.Errno) {
	if len(text) > 400 {
		return api.Token{}, api.ErrLexLong
	}
	if strings.ContainsAny(text, ".eE") {
		x, err := strconv.ParseFloat(text, 64)
		if err != nil {
			return api.Token{}, api.ErrLexFloat
		}
		return api.Token{Kind: api.KindFloat, Float: floatOf(x)}, api.OK
	}
	digits := strings.TrimLeft(text, "0")
	if len(digits) > 10 || len(digits) == 10 && digits > "2147483647" {
		return api.Token{}, api.ErrLexInt
	}
	n := int32(0)
	for _, c := range digits {
		n = n*10 + c - '0'
	}
	return api.Token{Kind: api.KindInt, Int: n}, api.OK
}

func floatOf(x float64) api.Float { return api.Float(math.Float64bits(x)) }

// stream makes words from a fixed start, so that a failure can be had again.
type stream uint64

func (s *stream) next() uint64 {
	x := uint64(*s)
	x ^= x << 13
	x ^= x >> 7
	x ^= x << 17
	*s = stream(x)
	return x * 0x2545f4914f6cdd1d
}

func (s *stream) below(n int) int { return int(s.next() >> 32 % uint64(n)) }

func (s *stream) text(size int, letters string) string {
	b := make([]byte, size)
	for i := range b {
		b[i] = letters[s.below(len(letters))]
	}
	return string(b)
}

// token is the text of one that is not in error.
func (s *stream) token() string {
	switch s.below(6) {
	case 0:
		return theKeywords[s.below(len(theKeywords))]
	case 1:
		return s.text(1, "aeEzAZ_") + s.text(s.below(32), "abceEizAZ_0189")
	case 2:
		return s.text(1+s.below(9), "0123456789")
	case 3:
		return s.text(1+s.below(20), "0123456789") + "." + s.text(1+s.below(20), "0123456789") + s.exponent()
	case 4:
		return s.text(1+s.below(20), "0123456789") + s.exponent()
	}
	return theSigns[s.below(len(theSigns))]
}

func (s *stream) exponent() string {
	letter := s.text(1, "eE")
	return []string{"", letter, letter + "+", letter + "-"}[s.below(4)] + s.text(1+s.below(2), "0123456789")
}

// gap is white space and comments, perhaps none.
func (s *stream) gap() string {
	gap := ""
	for range s.below(4) {
		if s.below(4) > 0 {
			gap += s.text(1+s.below(3), "\t\n\r ")
		} else {
			gap += "//" + s.text(s.below(9), "/a0 \t\r.&\xff\x00") + "\n"
		}
	}
	return gap
}

// source has so many tokens; neighbours without a gap may run together, and there may be an error.
func (s *stream) source(tokens int) string {
	source := s.gap()
	for range tokens {
		source += s.token() + s.gap()
	}
	if s.below(4) == 0 {
		source += "//" + s.text(s.below(9), "/a0 \r&\xff\x00")
	}
	return source
}
