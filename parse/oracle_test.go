package parse

import (
	"strings"

	"flyball/api"
	"flyball/lex"
)

// This file says again which sources there are, in the words of the chapter: the tests hold the package against the table of rules, which is gone through in all the ways that it leaves open.

// theRules are in the chapter's notation; | stands between the ways of a rule.
var theRules = map[string]string{
	"program": "`ticks` integer `;` { decl } `init` block `step` block end",
	"decl":    "`input` name `:` type [ `in` `[` number `,` number `]` ] `;` | `var` name `:` type [ `[` integer `]` ] `;`",
	"type":    "`bool` | `int` | `float`",
	"number":  "[ `-` ] integer | [ `-` ] float",
	"block":   "`{` { stmt } `}`",
	"stmt":    "if | `for` name `=` whole `..` whole block | name [ `[` expr `]` ] `=` expr `;`",
	"if":      "`if` expr block [ `else` else ]",
	"else":    "block | if",
	"whole":   "[ `-` ] integer",
	"expr":    "and { `||` and }",
	"and":     "cmp { `&&` cmp }",
	"cmp":     "sum [ compare sum ]",
	"compare": "`<` | `<=` | `==` | `!=` | `>` | `>=`",
	"sum":     "prod { add prod }",
	"add":     "`+` | `-`",
	"prod":    "unary { mul unary }",
	"mul":     "`*` | `/`",
	"unary":   "`-` unary | `!` unary | atom",
	"atom":    "integer | float | `true` | `false` | name [ `[` expr `]` ] | call `(` expr `)` | `(` expr `)`",
	"call":    "`int` | `float` | `abs`",
	"source":  "expr end",
}

var theKinds = map[string]api.Kind{"integer": api.KindInt, "float": api.KindFloat, "name": api.KindName, "end": api.KindEnd}

// ends are the places where a part may end.
type ends map[int]bool

// form is a part of a rule: from the places where it may begin to those where it may end.
type form func(m *matcher, from ends) ends

// matcher holds the tokens of a source against the rules.
type matcher struct {
	tokens   []api.Token
	farthest int // the last token that any rule was asked for
	known    map[string]map[int]ends
}

var theForms = map[string]form{}

func init() {
	for name, text := range theRules {
		theForms[name], _ = oneOf(strings.Fields(text))
	}
}

// oneOf reads the ways of a rule, up to a closing bracket or the end, and returns the rest.
func oneOf(words []string) (form, []string) {
	var ways []form
	for {
		var way form
		way, words = sequence(words)
		ways = append(ways, way)
		if len(words) == 0 || words[0] != "|" {
			break
		}
		words = words[1:]
	}
	return func(m *matcher, from ends) ends {
		to := ends{}
		for _, way := range ways {
			to.add(way(m, from))
		}
		return to
	}, words
}

func sequence(words []string) (form, []string) {
	var parts []form
	for len(words) > 0 && words[0] != "|" && words[0] != "]" && words[0] != "}" {
		var part form
		part, words = one(words)
		parts = append(parts, part)
	}
	return func(m *matcher, from ends) ends {
		for _, part := range parts {
			from = part(m, from)
		}
		return from
	}, words
}

func one(words []string) (form, []string) {
	word, rest := words[0], words[1:]
	switch word {
	case "[":
		inner, rest := oneOf(rest)
		return func(m *matcher, from ends) ends { return from.with(inner(m, from)) }, rest[1:]
	case "{":
		inner, rest := oneOf(rest)
		return func(m *matcher, from ends) ends { return manyTimes(m, inner, from) }, rest[1:]
	}
	if text, isText := strings.CutPrefix(word, "`"); isText {
		text = strings.TrimSuffix(text, "`")
		return terminal(func(t api.Token) bool {
			return (t.Kind == api.KindWord || t.Kind == api.KindSign) && t.Text == text
		}), rest
	}
	if kind, isKind := theKinds[word]; isKind {
		return terminal(func(t api.Token) bool { return t.Kind == kind }), rest
	}
	return func(m *matcher, from ends) ends { return m.rule(word, from) }, rest
}

func terminal(accepts func(api.Token) bool) form {
	return func(m *matcher, from ends) ends {
		to := ends{}
		for at := range from {
			if at < len(m.tokens) {
				m.farthest = max(m.farthest, at)
				if accepts(m.tokens[at]) {
					to[at+1] = true
				}
			}
		}
		return to
	}
}

func manyTimes(m *matcher, inner form, from ends) ends {
	all := from.with(nil)
	for len(from) > 0 {
		next := ends{}
		for at := range inner(m, from) {
			if !all[at] {
				all[at], next[at] = true, true
			}
		}
		from = next
	}
	return all
}

func (m *matcher) rule(name string, from ends) ends {
	to := ends{}
	if m.known[name] == nil {
		m.known[name] = map[int]ends{}
	}
	for at := range from {
		if m.known[name][at] == nil {
			m.known[name][at] = theForms[name](m, ends{at: true})
		}
		to.add(m.known[name][at])
	}
	return to
}

func (e ends) add(others ends) {
	for at := range others {
		e[at] = true
	}
}

func (e ends) with(others ends) ends {
	all := ends{}
	all.add(e)
	all.add(others)
	return all
}

// refusal is the first error of a source, but for those of depth and number: what the rule says of it.
func refusal(rule, source string) (api.Errno, int) {
	tokens, err, at := lex.Lex(source)
	if err != api.OK {
		return err, at
	}
	m := matcher{tokens: tokens, known: map[string]map[int]ends{}}
	if m.rule(rule, ends{0: true})[len(tokens)] {
		return api.OK, 0
	}
	return api.ErrParseToken, tokens[m.farthest].At
}
