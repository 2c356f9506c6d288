package check

import "flyball/api"

// use is what a name stands for.
type use int

const (
	variable use = iota
	input        // is not written to, and not read in Init
	counter      // of a loop: is not written to
)

// meaning is what is known of a name.
type meaning struct {
	use   use
	kind  api.Type
	array bool
}

// indexes returns how many of them belong behind the name.
func (m meaning) indexes() int {
	if m.array {
		return 1
	}
	return 0
}

// checker goes through a program, and knows the names that there are where it has come to.
type checker struct {
	names    map[string]meaning
	starting bool // in Init
	loops    int  // how many of them enclose the place
}

func newChecker() *checker {
	return &checker{names: map[string]meaning{}}
}

func (c *checker) knows(name string) bool {
	_, known := c.names[name]
	return known
}

// find returns what a name means that stands at this place.
func (c *checker) find(name string, at int) meaning {
	must(c.knows(name), api.ErrCheckName, at)
	return c.names[name]
}

// declare makes a declared name known.
func (c *checker) declare(d api.Decl) {
	m := meaning{kind: d.Type, array: d.Len != 0}
	if d.Input {
		m.use = input
	}
	c.names[d.Name] = m
}
