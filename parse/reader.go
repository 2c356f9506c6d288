package parse

import (
	"flyball/api"
	"flyball/lex"
)

// failure is what a reader panics with at an error, so that no rule has to hand one on.
type failure struct {
	err api.Errno
	at  int
}

func fail(err api.Errno, at int) {
	panic(failure{err, at})
}

// reader goes through the tokens of a source.
type reader struct {
	tokens []api.Token // those that are still to come; the last one, the end, is never taken
	depth  int
	stmts  int // how many have been reached
	exprs  int // how many are complete
}

func newReader(s string) *reader {
	tokens, err, at := lex.Lex(s)
	if err != api.OK {
		fail(err, at)
	}
	return &reader{tokens: tokens}
}

// next returns the token that comes next, which stays.
func (r *reader) next() api.Token {
	return r.tokens[0]
}

// take goes on behind the token that comes next, and returns it.
func (r *reader) take() api.Token {
	t := r.tokens[0]
	r.tokens = r.tokens[1:]
	return t
}

func (r *reader) takeKind(kind api.Kind) api.Token {
	if r.next().Kind != kind {
		r.refuse()
	}
	return r.take()
}

// sees asks for a keyword or a sign by its text alone, since no name is the same.
func (r *reader) sees(text string) bool {
	return r.next().Text == text
}

// accept takes a keyword or a sign if it comes next, and reports whether it did.
func (r *reader) accept(text string) bool {
	seen := r.sees(text)
	if seen {
		r.take()
	}
	return seen
}

func (r *reader) expect(text string) {
	if !r.accept(text) {
		r.refuse()
	}
}

func (r *reader) expectEnd() {
	if r.next().Kind != api.KindEnd {
		r.refuse()
	}
}

// refuse reports that no rule accepts the token that comes next.
func (r *reader) refuse() {
	fail(api.ErrParseToken, r.next().At)
}

// deeper reads a part that is nested, which begins with the token that comes next.
func (r *reader) deeper(part func()) {
	if r.depth == api.MaxDeep {
		fail(api.ErrParseDeep, r.next().At)
	}
	r.depth++
	part()
	r.depth--
}

// enclosed reads a part between two brackets.
func (r *reader) enclosed(opening, closing string, part func()) {
	if !r.sees(opening) {
		r.refuse()
	}
	r.deeper(func() {
		r.take()
		part()
		r.expect(closing)
	})
}

// count adds one to how many there are, up to the most that there may be.
func count(n *int, most, at int) {
	if *n == most {
		fail(api.ErrParseMany, at)
	}
	*n++
}
