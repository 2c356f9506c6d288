package check

import (
	"flyball/api"
	"flyball/conv"
	"flyball/lex"
	"flyball/pattern"
)

func (c *checker) decls(list []api.Decl) {
	cells := 0
	for _, d := range list {
		must(lex.IsName(d.Name), api.ErrCheckName, d.At)
		must(!c.knows(d.Name), api.ErrCheckTwice, d.At)
		must(isType(d.Type), api.ErrCheckType, d.At)
		must(hasForm(d), api.ErrCheckRange, d.At)
		cells += max(d.Len, 1)
		must(cells <= api.MaxCells, api.ErrCheckRange, d.At)
		c.declare(d)
	}
}

func isType(t api.Type) bool {
	return t == api.TypeBool || isNumeric(t)
}

// isNumeric reports whether values of a type are calculated with.
func isNumeric(t api.Type) bool {
	return t == api.TypeInt || t == api.TypeFloat
}

// hasForm reports whether a declaration has the length and the range that it may have.
func hasForm(d api.Decl) bool {
	switch {
	case !d.Input:
		return !d.Range && 0 <= d.Len && d.Len <= api.MaxArray
	case d.Len != 0, d.Range != isNumeric(d.Type):
		return false
	}
	return !d.Range || hasRange(d)
}

// hasRange reports whether the ends of a range belong to the type, and are in order.
func hasRange(d api.Decl) bool {
	if d.Type == api.TypeInt {
		return d.Lo.Op == api.OpInt && d.Hi.Op == api.OpInt && d.Lo.Int <= d.Hi.Int
	}
	lo, hi := floatEnd(d.Lo), floatEnd(d.Hi)
	return isFinite(lo) && isFinite(hi) && !pattern.Less(hi, lo)
}

// floatEnd returns the float that an end of a range counts as, a NaN if it is no number.
func floatEnd(e api.Expr) api.Float {
	switch e.Op {
	case api.OpInt:
		f, _ := conv.FromInt(int64(e.Int), api.Near)
		return f
	case api.OpFloat:
		return e.Float
	}
	return pattern.Quiet()
}

func isFinite(f api.Float) bool {
	return pattern.Class(f) < api.Infinite
}
