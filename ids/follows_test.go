package ids_test

import (
	"slices"
	"testing"

	"toponym/api"
	"toponym/ids"
)

// drawer picks numbers below n by a small sum.
func drawer() func(n int) int {
	state := uint32(1)
	return func(n int) int {
		state = state*1664525 + 1013904223
		return int(state>>8) % n
	}
}

// holder has what it took of a pool, and didn't give back, in no order.
type holder struct {
	p    *ids.Pool
	most int
	held []int
}

// take is of whatever the pool answers: it may be none, or who isn't out.
func (h *holder) take(t *testing.T) {
	t.Helper()
	n, ok := h.p.Take()
	if ok != (len(h.held) < h.most) || ok == (n == 0) {
		t.Fatalf("Take() = %d, %t, where %d of %d are out", n, ok, len(h.held), h.most)
	}
	if !ok {
		return
	}
	if n < 1 || n > h.most || slices.Contains(h.held, n) {
		t.Fatalf("Take() = %d, where %v are out", n, h.held)
	}
	h.held = append(h.held, n)
}

// give gives back the one at the place.
func (h *holder) give(t *testing.T, at int) {
	t.Helper()
	expectGiven(t, h.p, h.held[at])
	expectNotGiven(t, h.p, h.held[at])
	h.held = slices.Delete(h.held, at, at+1)
}

func (h *holder) expectAnew(t *testing.T, out []int) {
	t.Helper()
	anew := ids.New(h.most, out...)
	expectOut(t, anew, len(h.held))
	expectRest(t, anew, without(span(1, h.most), h.held...)...)
}

// expectFollows holds a clone, and pools that are made of those that are out, in
// whatever order, against what the pool must give up to its end.
func (h *holder) expectFollows(t *testing.T) {
	t.Helper()
	expectOut(t, h.p, len(h.held))
	expectRest(t, h.p.Clone(), without(span(1, h.most), h.held...)...)
	h.expectAnew(t, h.held)
	up := sorted(h.held)
	h.expectAnew(t, up)
	slices.Reverse(up)
	h.expectAnew(t, append(up, h.held...))
	if t.Failed() {
		t.Fatalf("of %d, %v are out", h.most, h.held)
	}
}

// expectLast is the same of the pool itself, which goes to its end by that.
func (h *holder) expectLast(t *testing.T) {
	t.Helper()
	h.expectFollows(t)
	rest := without(span(1, h.most), h.held...)
	expectRest(t, h.p, rest...)
	h.held = append(h.held, rest...)
	h.expectFollows(t)
}

// P9.2: of long rows of Take and Give, in any order, of pools of any size.
func TestLongRows(t *testing.T) {
	draw := drawer()
	for round := range 300 {
		most := []int{1, 2, 3, 5, 12, 40, api.MaxNodes}[round%7]
		h := &holder{p: ids.New(most), most: most}
		tends := 1 + draw(9)
		for range 20 + draw(200) {
			if draw(10) < tends || len(h.held) == 0 {
				h.take(t)
			} else {
				h.give(t, draw(len(h.held)))
			}
			if most < api.MaxNodes || draw(10) == 0 {
				h.expectFollows(t)
			}
		}
		h.expectLast(t)
	}
}

// P9.2: of rows that fill the pool up, and empty it, from below, from above, and
// mixed, wholly and in part.
func TestFullRows(t *testing.T) {
	draw := drawer()
	places := []func(n int) int{
		func(n int) int { return 0 },
		func(n int) int { return n - 1 },
		func(n int) int { return n / 2 },
		draw,
	}
	for _, most := range []int{1, 4, 9, 64, api.MaxNodes} {
		h := &holder{p: ids.New(most), most: most}
		for round := range 24 {
			for range draw(most) + most/2 + 1 {
				h.take(t)
			}
			h.expectFollows(t)
			left := draw(len(h.held))
			if round%3 == 0 {
				left = 0
			}
			for len(h.held) > left {
				h.give(t, places[round%4](len(h.held)))
			}
			h.expectFollows(t)
		}
		h.expectLast(t)
	}
}

// P9.2: however it came about that the same are out: by those that were given
// back in any order, by what was taken between, by New, and by a Clone of each.
func TestSameOut(t *testing.T) {
	const most = 6
	for _, out := range subsets(span(1, most)) {
		back := without(span(1, most), out...)
		for _, order := range orders(back) {
			h := &holder{p: ids.New(most), most: most, held: out}
			expectTaken(t, h.p, span(1, most)...)
			expectGiven(t, h.p, order...)
			h.expectFollows(t)
			if len(order) > 1 {
				expectTaken(t, h.p, back[:2]...)
				expectGiven(t, h.p, back[1], back[0])
			}
			h.p = h.p.Clone()
			h.expectFollows(t)
			expectRest(t, h.p, back...)
		}
	}
}
