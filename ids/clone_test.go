package ids_test

import (
	"testing"

	"toponym/ids"
)

// P9.1: a clone has the same numbers out.
func TestClone(t *testing.T) {
	for _, out := range [][]int{nil, {1}, {5}, {2, 4}, {1, 2, 3}, {5, 3, 1}, {1, 2, 3, 4, 5}} {
		p := ids.New(5, out...)
		c := p.Clone()
		rest := without(span(1, 5), out...)
		expectOut(t, c, len(out))
		expectNotGiven(t, c, rest...)
		expectRest(t, c, rest...)
		expectOut(t, p, len(out))
		expectRest(t, p, rest...)
		c = p.Clone()
		expectOut(t, c, 5)
		expectRest(t, c)
		expectGiven(t, c, 1, 2, 3, 4, 5)
		expectRest(t, p)
	}
	expectRest(t, ids.New(0).Clone())
	expectRest(t, ids.New(-1, 1).Clone())
	expectRest(t, ids.New(1000, 200).Clone(), span(1, 199)...)
}

// P9.1: a clone goes on by itself, and what it was made of, too: what is taken.
func TestCloneTakes(t *testing.T) {
	p := ids.New(6)
	expectTaken(t, p, 1, 2, 3, 4)
	expectGiven(t, p, 3, 1)
	c := p.Clone()
	expectTaken(t, c, 1, 3, 5)
	expectOut(t, p, 2)
	expectTaken(t, p, 1)
	expectNotGiven(t, p, 3, 5)
	expectRest(t, c, 6)
	expectRest(t, p, 3, 5, 6)
	expectOut(t, c, 6)
}

// P9.1: likewise, what is given back, where both have a place for it.
func TestCloneGives(t *testing.T) {
	for given := range 8 {
		p := ids.New(9, span(1, 9)...)
		expectGiven(t, p, span(2, 1+given)...)
		c := p.Clone()
		expectGiven(t, p, 9)
		expectGiven(t, c, 1)
		expectNotGiven(t, p, 9)
		expectNotGiven(t, c, 1)
		d := c.Clone()
		expectRest(t, p, append(span(2, 1+given), 9)...)
		expectRest(t, c, span(1, 1+given)...)
		expectGiven(t, c, 9, 1)
		expectRest(t, d, span(1, 1+given)...)
		expectRest(t, c, 1, 9)
		expectRest(t, p)
	}
}

// P9.1: likewise, in turns.
func TestCloneTurns(t *testing.T) {
	p := ids.New(8, span(1, 8)...)
	expectGiven(t, p, 7, 5, 3, 1)
	c := p.Clone()
	expectTaken(t, p, 1, 3)
	expectGiven(t, c, 2)
	expectGiven(t, p, 8)
	expectTaken(t, c, 1)
	expectGiven(t, p, 4)
	expectGiven(t, c, 6)
	d := p.Clone()
	expectRest(t, c, 2, 3, 5, 6, 7)
	expectTaken(t, d, 4)
	expectGiven(t, d, 1)
	expectRest(t, p, 4, 5, 7, 8)
	expectRest(t, d, 1, 5, 7, 8)
}
