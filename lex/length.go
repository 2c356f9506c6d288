package lex

import "strings"

const whiteSpace = "\t\n\r "

// gapLength returns how many bytes s begins with that are white space or comments.
func gapLength(s string) int {
	rest := strings.TrimLeft(s, whiteSpace)
	for strings.HasPrefix(rest, "//") {
		_, rest, _ = strings.Cut(rest, "\n")
		rest = strings.TrimLeft(rest, whiteSpace)
	}
	return len(s) - len(rest)
}

// nameLength returns how long the name or keyword is that s begins with; 0 if there is none.
func nameLength(s string) int {
	for i, c := range s {
		if !isLetter(c) && (i == 0 || !isDigit(c)) {
			return i
		}
	}
	return len(s)
}

// numberLength returns how long the number is that s begins with, 0 if there is none, and whether it is a float.
func numberLength(s string) (int, bool) {
	whole := digitsLength(s)
	if whole == 0 {
		return 0, false
	}
	size := whole + fractionLength(s[whole:])
	size += exponentLength(s[size:])
	return size, size > whole
}

// fractionLength returns how long the point is that s begins with, and its digits; 0 if either is missing.
func fractionLength(s string) int {
	rest, point := strings.CutPrefix(s, ".")
	size := digitsLength(rest)
	if !point || size == 0 {
		return 0
	}
	return 1 + size
}

// exponentLength returns how long the exponent is that s begins with; 0 if there is none, or one without digits.
func exponentLength(s string) int {
	if !startsWithAny(s, "eE") {
		return 0
	}
	start := 1
	if startsWithAny(s[start:], "+-") {
		start++
	}
	size := digitsLength(s[start:])
	if size == 0 {
		return 0
	}
	return start + size
}

// digitsLength returns how many digits s begins with.
func digitsLength(s string) int {
	for i, c := range s {
		if !isDigit(c) {
			return i
		}
	}
	return len(s)
}

// signLength returns how long the longest sign is that s begins with; 0 if there is none.
func signLength(s string) int {
	switch s[:min(2, len(s))] {
	case "==", "!=", "<=", ">=", "&&", "||", "..":
		return 2
	}
	if startsWithAny(s, "()[]{},;:=<>+-*/!") {
		return 1
	}
	return 0
}

// startsWithAny reports whether the first byte of s is one of the bytes of set.
func startsWithAny(s, set string) bool {
	return s != "" && strings.IndexByte(set, s[0]) >= 0
}

// isLetter counts the low line as a letter, as names do.
func isLetter(c rune) bool {
	return 'a' <= c && c <= 'z' || 'A' <= c && c <= 'Z' || c == '_'
}

func isDigit(c rune) bool {
	return '0' <= c && c <= '9'
}
