package ids_test

import (
	"math"
	"slices"
	"testing"

	"toponym/api"
	"toponym/ids"
)

// span is all numbers from a to b.
func span(a, b int) []int {
	var l []int
	for n := a; n <= b; n++ {
		l = append(l, n)
	}
	return l
}

// without is l, but for those of gone.
func without(l []int, gone ...int) []int {
	return slices.DeleteFunc(slices.Clone(l), func(n int) bool {
		return slices.Contains(gone, n)
	})
}

func expectOut(t *testing.T, p *ids.Pool, want int) {
	t.Helper()
	if n := p.Out(); n != want {
		t.Errorf("Out() = %d; want %d", n, want)
	}
}

func expectTake(t *testing.T, p *ids.Pool, want int, ok bool) {
	t.Helper()
	if n, is := p.Take(); n != want || is != ok {
		t.Errorf("Take() = %d, %t; want %d, %t", n, is, want, ok)
	}
}

// expectTaken takes some, and holds Out against it each time.
func expectTaken(t *testing.T, p *ids.Pool, want ...int) {
	t.Helper()
	out := p.Out()
	for i, n := range want {
		expectTake(t, p, n, true)
		expectOut(t, p, out+i+1)
	}
}

// expectRest takes all that are left, and then none, however often.
func expectRest(t *testing.T, p *ids.Pool, want ...int) {
	t.Helper()
	expectTaken(t, p, want...)
	out := p.Out()
	for range 3 {
		expectTake(t, p, 0, false)
		expectOut(t, p, out)
	}
}

func expectGiven(t *testing.T, p *ids.Pool, l ...int) {
	t.Helper()
	for _, n := range l {
		out := p.Out()
		if !p.Give(n) {
			t.Errorf("Give(%d) = false", n)
		}
		expectOut(t, p, out-1)
	}
}

func expectNotGiven(t *testing.T, p *ids.Pool, l ...int) {
	t.Helper()
	for _, n := range l {
		out := p.Out()
		if p.Give(n) {
			t.Errorf("Give(%d) = true", n)
		}
		expectOut(t, p, out)
	}
}

// farOff are numbers that no pool has, some of them just by their lower bits.
func farOff() []int {
	return []int{
		0, -1, -2, -199, -200, -201, -255, -256, math.MinInt32, math.MinInt, math.MinInt + 1, -1<<32 + 1, -1<<32 + 2, -1 << 32,
		201, 202, 255, 256, 257, 258, 65536, 65537, math.MaxInt32, 1 << 32, 1<<32 + 1, 1<<32 + 2, math.MaxInt, math.MaxInt - 1,
	}
}

// P9.1: the greatest number is from 0 to MaxNodes, else the nearer of both.
func TestNewMost(t *testing.T) {
	for _, x := range []struct{ most, greatest int }{
		{0, 0}, {1, 1}, {2, 2}, {3, 3}, {7, 7}, {100, 100}, {199, 199},
		{api.MaxNodes, 200}, {api.MaxNodes + 1, 200}, {255, 200}, {256, 200}, {257, 200}, {1000, 200}, {65537, 200},
		{math.MaxInt32, 200}, {1 << 32, 200}, {1<<32 + 1, 200}, {math.MaxInt - 1, 200}, {math.MaxInt, 200},
		{-1, 0}, {-2, 0}, {-200, 0}, {-255, 0}, {math.MinInt32, 0}, {-1<<32 + 1, 0}, {math.MinInt + 1, 0}, {math.MinInt, 0},
	} {
		all := span(1, x.greatest)
		p := ids.New(x.most)
		expectOut(t, p, 0)
		expectRest(t, p, all...)
		expectNotGiven(t, p, x.greatest+1, 0)
		p = ids.New(x.most, all...)
		expectOut(t, p, x.greatest)
		expectRest(t, p)
		p = ids.New(x.most, farOff()...)
		expectOut(t, p, 0)
		expectRest(t, p, all...)
		p = ids.New(x.most, x.greatest, x.greatest+1)
		expectOut(t, p, min(x.greatest, 1))
		expectRest(t, p, without(all, x.greatest)...)
	}
}

// P9.1: those are out that are from 1 to the greatest, in whatever order, and
// however often they are handed in.
func TestNewOut(t *testing.T) {
	for _, x := range []struct {
		most      int
		out, rest []int
	}{
		{3, []int{2}, []int{1, 3}},
		{0, nil, nil},
		{0, []int{0}, nil},
		{0, []int{0, 1, -1, 200, 201}, nil},
		{-5, []int{-5, -1, 0, 1, 5}, nil},
		{math.MinInt, []int{math.MinInt, 1, math.MaxInt}, nil},
		{1, nil, []int{1}},
		{1, []int{1}, nil},
		{1, []int{1, 1, 1}, nil},
		{1, []int{2, 0}, []int{1}},
		{5, []int{}, []int{1, 2, 3, 4, 5}},
		{5, []int{1}, []int{2, 3, 4, 5}},
		{5, []int{5}, []int{1, 2, 3, 4}},
		{5, []int{1, 5}, []int{2, 3, 4}},
		{5, []int{2, 4}, []int{1, 3, 5}},
		{5, []int{4, 2}, []int{1, 3, 5}},
		{5, []int{1, 2, 3}, []int{4, 5}},
		{5, []int{3, 1, 2}, []int{4, 5}},
		{5, []int{4, 5, 3}, []int{1, 2}},
		{5, []int{3, 3}, []int{1, 2, 4, 5}},
		{5, []int{3, 3, 3, 3}, []int{1, 2, 4, 5}},
		{5, []int{5, 1, 5, 1, 5, 5}, []int{2, 3, 4}},
		{5, []int{0}, []int{1, 2, 3, 4, 5}},
		{5, []int{-1, -2, -5, math.MinInt}, []int{1, 2, 3, 4, 5}},
		{5, []int{6}, []int{1, 2, 3, 4, 5}},
		{5, []int{6, 7, 200, 201, math.MaxInt}, []int{1, 2, 3, 4, 5}},
		{5, []int{6, 5, 0, -5, 5, 201, 1, 1, 6}, []int{2, 3, 4}},
		{5, []int{201, 2, math.MaxInt, 2, math.MinInt, 4}, []int{1, 3, 5}},
		{5, []int{1<<32 + 1, 257, -255, -1<<32 + 2}, []int{1, 2, 3, 4, 5}},
		{5, []int{1, 2, 3, 4, 5}, nil},
		{5, []int{5, 4, 3, 2, 1}, nil},
		{5, []int{3, 1, 5, 2, 4}, nil},
		{5, []int{3, 1, 5, 6, 2, 2, 4, 0, 3}, nil},
		{api.MaxNodes, []int{api.MaxNodes}, span(1, 199)},
		{api.MaxNodes, []int{api.MaxNodes + 1}, span(1, 200)},
		{api.MaxNodes + 1, []int{api.MaxNodes + 1, 1}, span(2, 200)},
		{math.MaxInt, []int{math.MaxInt, 200, 201, 1}, span(2, 199)},
		{api.MaxNodes, []int{100, 200, 1, 199, 2}, without(span(3, 198), 100)},
	} {
		p := ids.New(x.most, x.out...)
		expectOut(t, p, max(min(x.most, api.MaxNodes), 0)-len(x.rest))
		expectRest(t, p, x.rest...)
		if t.Failed() {
			t.Fatalf("New(%d, %v)", x.most, x.out)
		}
	}
}

// P9.1: more than 300 numbers that are handed in.
func TestNewMany(t *testing.T) {
	mixed := make([]int, 1000)
	for i := range mixed {
		mixed[i] = i*7919%1000 - 400
	}
	var even []int
	for n := 600; n > -600; n -= 2 {
		even = append(even, n)
	}
	for _, x := range []struct {
		most      int
		out, rest []int
	}{
		{200, span(1, 350), nil},
		{200, span(-200, 199), []int{200}},
		{100, span(1, 350), nil},
		{0, span(-300, 300), nil},
		{200, span(201, 600), span(1, 200)},
		{200, span(-600, 0), span(1, 200)},
		{5, slices.Repeat([]int{3}, 400), []int{1, 2, 4, 5}},
		{5, slices.Repeat([]int{3, 1, 0, 6}, 400), []int{2, 4, 5}},
		{200, mixed, nil},
		{200, without(mixed, 1, 77, 200), []int{1, 77, 200}},
		{7, even, []int{1, 3, 5, 7}},
		{math.MaxInt, slices.Repeat(span(1, 198), 20), []int{199, 200}},
	} {
		p := ids.New(x.most, x.out...)
		expectOut(t, p, min(x.most, api.MaxNodes)-len(x.rest))
		expectRest(t, p, x.rest...)
	}
}

// P9.1: the list that is handed in stays, its spare room too, and isn't kept.
func TestNewStays(t *testing.T) {
	list := []int{7, 3, 3, 0, -1, 201, 5, 9, 8, 2}
	before := slices.Clone(list)
	given := list[:7]
	p, q := ids.New(10, given...), ids.New(10, given...)
	expectTaken(t, p, 1, 2, 4)
	expectGiven(t, p, 7, 3, 1)
	if !slices.Equal(list, before) {
		t.Errorf("%v became %v", before, list)
	}
	for i := range list {
		list[i] = i + 1
	}
	expectRest(t, p, 1, 3, 6, 7, 8, 9, 10)
	expectNotGiven(t, q, 1, 2, 4)
	expectGiven(t, q, 7, 5)
	expectRest(t, q, 1, 2, 4, 5, 6, 7, 8, 9, 10)
	if !slices.Equal(list, span(1, 10)) {
		t.Errorf("%v became %v", span(1, 10), list)
	}
}

// R7: pools don't hang on one another.
func TestPoolsAlone(t *testing.T) {
	p, q := ids.New(4), ids.New(4)
	expectTaken(t, p, 1, 2, 3)
	expectOut(t, q, 0)
	expectNotGiven(t, q, 1, 2, 3)
	expectGiven(t, p, 2)
	expectTaken(t, q, 1, 2)
	expectGiven(t, q, 1)
	expectRest(t, p, 2, 4)
	expectRest(t, q, 1, 3, 4)
}

// R1: a pool that nobody made is one of none.
func TestZero(t *testing.T) {
	p := new(ids.Pool)
	for _, q := range []*ids.Pool{p, p.Clone()} {
		expectOut(t, q, 0)
		expectRest(t, q)
		expectNotGiven(t, q, farOff()...)
		expectNotGiven(t, q, span(1, 200)...)
		expectRest(t, q)
	}
}
