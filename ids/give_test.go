package ids_test

import (
	"slices"
	"testing"

	"toponym/api"
	"toponym/ids"
)

// orders are all orders of l.
func orders(l []int) [][]int {
	if len(l) == 0 {
		return [][]int{nil}
	}
	var all [][]int
	for i, n := range l {
		for _, rest := range orders(slices.Delete(slices.Clone(l), i, i+1)) {
			all = append(all, append([]int{n}, rest...))
		}
	}
	return all
}

func sorted(l []int) []int {
	return slices.Sorted(slices.Values(l))
}

// P9.1: the least number that isn't out.
func TestTake(t *testing.T) {
	expectRest(t, ids.New(5), 1, 2, 3, 4, 5)
	expectRest(t, ids.New(api.MaxNodes), span(1, api.MaxNodes)...)
	expectRest(t, ids.New(5, 1, 2, 3, 4, 5))
	expectRest(t, ids.New(5, 1), 2, 3, 4, 5)
	expectRest(t, ids.New(5, 1, 2), 3, 4, 5)
	expectRest(t, ids.New(6, 1, 4, 5), 2, 3, 6)
	expectRest(t, ids.New(6, 2, 6), 1, 3, 4, 5)
	expectRest(t, ids.New(9, 1, 3, 5, 9), 2, 4, 6, 7, 8)
	expectRest(t, ids.New(0))
	expectRest(t, ids.New(0, 1))
	expectRest(t, ids.New(-3))
}

// P9.1: what is out is given back once; then it isn't out, and comes again.
func TestGive(t *testing.T) {
	p := ids.New(4, 2, 4)
	expectNotGiven(t, p, 1, 3, 0, -1, 5)
	expectGiven(t, p, 4)
	expectNotGiven(t, p, 4, 4, 1, 3)
	expectGiven(t, p, 2)
	expectNotGiven(t, p, 2, 4)
	expectOut(t, p, 0)
	expectRest(t, p, 1, 2, 3, 4)
	expectGiven(t, p, 4)
	expectNotGiven(t, p, 4, 5)
	expectRest(t, p, 4)
	expectGiven(t, p, 1)
	expectNotGiven(t, p, 1, 0)
	expectRest(t, p, 1)
	expectGiven(t, p, 1, 2, 3, 4)
	expectNotGiven(t, p, 1, 2, 3, 4)
	expectRest(t, p, 1, 2, 3, 4)
}

// P9.1: in a new pool nothing is out, and what wasn't taken yet can't be given.
func TestGiveOfNew(t *testing.T) {
	p := ids.New(api.MaxNodes)
	expectNotGiven(t, p, span(-10, 300)...)
	for n := range api.MaxNodes {
		expectNotGiven(t, p, span(n+1, 201)...)
		expectTake(t, p, n+1, true)
	}
	expectGiven(t, p, span(1, 200)...)
	expectNotGiven(t, p, span(-10, 300)...)
	expectOut(t, p, 0)
}

// P9.1: numbers that no pool has.
func TestGiveFarOff(t *testing.T) {
	for _, most := range []int{0, 1, 2, 199, 200, 201, 1000} {
		greatest := min(most, api.MaxNodes)
		all := span(1, greatest)
		p := ids.New(most)
		expectNotGiven(t, p, farOff()...)
		expectRest(t, p, all...)
		expectNotGiven(t, p, farOff()...)
		expectNotGiven(t, p, greatest+1, greatest+2, -greatest, -greatest-1)
		expectRest(t, p)
		if greatest > 0 {
			expectGiven(t, p, greatest)
			expectNotGiven(t, p, greatest, greatest+1)
			expectRest(t, p, greatest)
		}
	}
}

// P9.1: a number that was given back comes ahead of any greater one.
func TestGiveAhead(t *testing.T) {
	p := ids.New(6)
	expectTaken(t, p, 1, 2, 3)
	expectGiven(t, p, 2)
	expectTaken(t, p, 2, 4)
	expectGiven(t, p, 1, 4)
	expectTaken(t, p, 1, 4, 5)
	expectGiven(t, p, 5, 3)
	expectTaken(t, p, 3)
	expectGiven(t, p, 2)
	expectTaken(t, p, 2, 5, 6)
	expectGiven(t, p, 6, 5, 4, 3)
	expectTaken(t, p, 3, 4)
	expectGiven(t, p, 1)
	expectRest(t, p, 1, 5, 6)
}

// P9.1: some that were given back, in any order, come rising, ahead of those
// that never were out.
func TestGiveOrders(t *testing.T) {
	for size := range 7 {
		for _, order := range orders(span(1, size)) {
			p := ids.New(size + 2)
			expectTaken(t, p, span(1, size)...)
			expectGiven(t, p, order...)
			expectRest(t, p, span(1, size+2)...)
			p = ids.New(8, 8, 7, 6, 5, 4, 3, 2, 1)
			expectGiven(t, p, order...)
			expectRest(t, p, span(1, size)...)
		}
	}
}

// P9.1: likewise, where some are taken again between.
func TestGiveOrdersTaken(t *testing.T) {
	for _, order := range orders([]int{1, 3, 4, 6, 7, 8}) {
		for ahead := range len(order) + 1 {
			for taken := range ahead + 1 {
				p := ids.New(9, span(1, 8)...)
				expectGiven(t, p, order[:ahead]...)
				back := sorted(order[:ahead])
				expectTaken(t, p, back[:taken]...)
				expectGiven(t, p, order[ahead:]...)
				expectNotGiven(t, p, order[ahead:]...)
				rest := append(back[taken:], order[ahead:]...)
				expectRest(t, p, append(sorted(rest), 9)...)
			}
		}
	}
}

// P9.1: many that were given back from below, from above, and mixed.
func TestGiveMany(t *testing.T) {
	up := span(1, api.MaxNodes)
	down := slices.Clone(up)
	slices.Reverse(down)
	mixed := make([]int, api.MaxNodes)
	for i := range mixed {
		mixed[i] = i*77%api.MaxNodes + 1
	}
	for _, order := range [][]int{up, down, mixed} {
		p := ids.New(api.MaxNodes, up...)
		expectGiven(t, p, order...)
		expectNotGiven(t, p, order...)
		expectRest(t, p, up...)
		expectGiven(t, p, order[:150]...)
		expectTaken(t, p, sorted(order[:150])[:70]...)
		expectGiven(t, p, order[150:]...)
		expectRest(t, p, without(up, sorted(order[:150])[:70]...)...)
	}
}

// P9.1, R4: what answers false changes nothing.
func TestFalseChangesNothing(t *testing.T) {
	for _, x := range []struct {
		out, back []int
	}{
		{nil, nil},
		{[]int{1, 2, 3, 4, 5, 6}, nil},
		{[]int{1, 2, 3, 4, 5, 6}, []int{4, 1, 5}},
		{[]int{1, 2, 3, 4, 5, 6}, []int{6}},
		{[]int{2, 5}, nil},
		{[]int{2, 5}, []int{5}},
		{[]int{2, 5, 6}, []int{6, 2}},
		{[]int{3}, []int{3}},
	} {
		p := ids.New(6, x.out...)
		expectGiven(t, p, x.back...)
		rest := without(span(1, 6), without(x.out, x.back...)...)
		for range 3 {
			expectNotGiven(t, p, farOff()...)
			expectNotGiven(t, p, rest...)
			expectNotGiven(t, p, 7, 8)
		}
		expectOut(t, p, 6-len(rest))
		expectRest(t, p, rest...)
		expectNotGiven(t, p, farOff()...)
		expectGiven(t, p, 4, 2)
		expectRest(t, p, 2, 4)
	}
}
