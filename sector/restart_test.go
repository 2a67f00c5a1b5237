package sector_test

import (
	"fmt"
	"math"
	"slices"
	"testing"

	"toponym/api"
	"toponym/sector"
)

// restart checks what holds behind whatever restart.
func restart(t *testing.T, d *sector.Device, kept ...int) {
	t.Helper()
	d.Restart(kept...)
	expectPending(t, d, 0)
	expectFlush(t, d, api.OK)
}

// P6.2: the chapter's example, and what else is kept of two writes of a sector.
func TestRestartSameSector(t *testing.T) {
	a, b := full('a'), full('b')
	for _, x := range []struct {
		kept []int
		want string
	}{
		{nil, noughts()},
		{[]int{}, noughts()},
		{[]int{0}, a},
		{[]int{1}, b},
		{[]int{0, 1}, b},
		{[]int{1, 0}, b},
		{[]int{0, 0}, a},
		{[]int{1, 1}, b},
		{[]int{0, 1, 0}, b},
		{[]int{1, 0, 1, 0, 0}, b},
		{[]int{2}, noughts()},
		{[]int{-1}, noughts()},
		{[]int{-1, 0, 2}, a},
		{[]int{2, 1, -1}, b},
	} {
		t.Run(fmt.Sprint(x.kept), func(t *testing.T) {
			d := sector.New(2)
			put(t, d, 0, a)
			put(t, d, 0, b)
			restart(t, d, x.kept...)
			expectAll(t, d, x.want, noughts())
			put(t, d, 1, a)
			restart(t, d)
			expectAll(t, d, x.want, noughts())
		})
	}
}

// P6.2: of four writes of three sectors, those with the numbers.
func TestRestart(t *testing.T) {
	o, a, b, c, e := noughts(), marked(1), marked(2), marked(3), marked(4)
	for _, x := range []struct {
		kept []int
		want []string
	}{
		{nil, []string{o, o, o}},
		{[]int{0, 1, 2, 3}, []string{e, b, c}},
		{[]int{3, 2, 1, 0}, []string{e, b, c}},
		{[]int{2, 0, 3, 1}, []string{e, b, c}},
		{[]int{3, 0}, []string{e, o, o}},
		{[]int{0}, []string{a, o, o}},
		{[]int{1}, []string{o, b, o}},
		{[]int{2}, []string{o, o, c}},
		{[]int{3}, []string{e, o, o}},
		{[]int{0, 2}, []string{a, o, c}},
		{[]int{2, 0}, []string{a, o, c}},
		{[]int{1, 2, 1, 1, 2}, []string{o, b, c}},
		{[]int{1, 3}, []string{e, b, o}},
		{[]int{0, 1, 2}, []string{a, b, c}},
		{[]int{4}, []string{o, o, o}},
		{[]int{4, 5, -1, -4, 1}, []string{o, b, o}},
		{[]int{math.MinInt, math.MaxInt, 2, 1 << 32, math.MaxInt32, math.MinInt32}, []string{o, o, c}},
		{[]int{1<<32 + 1, -1<<32 + 1, 1 << 16, 256, 257}, []string{o, o, o}},
	} {
		t.Run(fmt.Sprint(x.kept), func(t *testing.T) {
			d := sector.New(3)
			put(t, d, 0, a)
			put(t, d, 1, b)
			put(t, d, 2, c)
			put(t, d, 0, e)
			restart(t, d, x.kept...)
			expectAll(t, d, x.want...)
		})
	}
}

// P6.2: a restart of a device on which nothing is pending changes nothing.
func TestRestartNothing(t *testing.T) {
	d := sector.New(2)
	restart(t, d, 0, 1, 2, -1)
	expectAll(t, d, noughts(), noughts())
	put(t, d, 0, full(1))
	expectFlush(t, d, api.OK)
	restart(t, d)
	restart(t, d, 0, 0)
	expectAll(t, d, full(1), noughts())
}

// P6.2: behind a flush, and behind a restart, the writes are numbered from 0 on
// again, and one that was lost doesn't come again.
func TestRestartNumbersAnew(t *testing.T) {
	d := sector.New(3)
	put(t, d, 0, marked(1))
	put(t, d, 1, marked(2))
	expectFlush(t, d, api.OK)
	put(t, d, 2, marked(3))
	put(t, d, 0, marked(4))
	restart(t, d, 0)
	expectAll(t, d, marked(1), marked(2), marked(3))
	restart(t, d, 0, 1)
	expectAll(t, d, marked(1), marked(2), marked(3))
	put(t, d, 1, marked(5))
	put(t, d, 2, marked(6))
	restart(t, d, 1, 2, 3)
	expectAll(t, d, marked(1), marked(2), marked(6))
}

// P6.2: a write that went wrong has no number.
func TestRestartWrongWrites(t *testing.T) {
	d := sector.New(2)
	expectPut(t, d, 2, full(1), api.ErrArg)
	put(t, d, 0, full(2))
	expectPut(t, d, 0, full(3)[1:], api.ErrArg)
	put(t, d, 1, full(4))
	restart(t, d, 1)
	expectAll(t, d, noughts(), full(4))
}

// P6.2: what is kept is safe.
func TestRestartKeptIsSafe(t *testing.T) {
	d := sector.New(2)
	put(t, d, 0, full(1))
	put(t, d, 1, full(2))
	d.Restart(0, 1)
	put(t, d, 0, full(3))
	d.Restart()
	expectAll(t, d, full(1), full(2))
}

// P6.2: behind a restart it is written as ever.
func TestRestartGoesOn(t *testing.T) {
	d := sector.New(2)
	for n := range 50 {
		put(t, d, 0, marked(2*n))
		put(t, d, 1, marked(2*n+1))
		expectAll(t, d, marked(2*n), marked(2*n+1))
		expectPending(t, d, 2)
		restart(t, d, 1)
		expectGet(t, d, 1, marked(2*n+1))
		expectGet(t, d, 0, noughts())
	}
}

// R5: the numbers that were handed in stay as they are, and those behind them.
func TestRestartStays(t *testing.T) {
	for _, numbers := range [][]int{{3, 1, 2, 0, 8, 9}, {1, 1, -5, 7, 8, 9}, {2, 0, 8, 9}, {8, 9}} {
		before := slices.Clone(numbers)
		d := sector.New(1)
		for n := range 4 {
			put(t, d, 0, full(byte(n)))
		}
		d.Restart(numbers[:len(numbers)-2]...)
		if !slices.Equal(numbers, before) {
			t.Errorf("%v became %v", before, numbers)
		}
	}
}

// P6.3: what is safe stays behind a restart, whatever is kept.
func TestSafeStays(t *testing.T) {
	for _, kept := range [][]int{nil, {0}, {1}, {0, 1}, {1, 0}, {2, 3}, {-1}, {0, 1, 2}} {
		d := sector.New(4)
		for i := range 4 {
			put(t, d, i, marked(i))
		}
		expectFlush(t, d, api.OK)
		put(t, d, 1, full('a'))
		put(t, d, 1, full('b'))
		restart(t, d, kept...)
		expectGet(t, d, 0, marked(0))
		expectGet(t, d, 2, marked(2))
		expectGet(t, d, 3, marked(3))
		if !slices.Contains(kept, 0) && !slices.Contains(kept, 1) {
			expectGet(t, d, 1, marked(1))
		}
	}
}

// P6.3: what is safe is the last that was written ahead of the flush, and a
// lost write leaves it, however often it was written.
func TestSafeStaysBehindLostWrites(t *testing.T) {
	d := sector.New(1)
	put(t, d, 0, full(1))
	put(t, d, 0, full(2))
	expectFlush(t, d, api.OK)
	for n := range 5 {
		for m := range n + 1 {
			put(t, d, 0, marked(m))
		}
		restart(t, d)
		expectAll(t, d, full(2))
	}
	put(t, d, 0, full(3))
	expectFlush(t, d, api.OK)
	restart(t, d)
	expectAll(t, d, full(3))
}

// wantedSectors says the rule over again: of each sector the last write that is
// kept, else what is safe there.
func wantedSectors(safe []string, at []int, kept int) []string {
	want := slices.Clone(safe)
	for n, i := range at {
		if kept>>n&1 == 1 {
			want[i] = marked(n)
		}
	}
	return want
}

// P6.2, P6.3: all ways to write up to five times to three sectors, and all ways
// to keep some of that.
func TestRestartAll(t *testing.T) {
	safe := []string{full('x'), noughts(), full('z')}
	lists := [][]int{nil}
	for next := 0; next < len(lists); next++ {
		at := lists[next]
		for kept := range 1 << len(at) {
			d := sector.New(3)
			put(t, d, 0, safe[0])
			put(t, d, 2, safe[2])
			expectFlush(t, d, api.OK)
			var numbers []int
			for n, i := range at {
				put(t, d, i, marked(n))
				if kept>>n&1 == 1 {
					numbers = append(numbers, n)
				}
			}
			slices.Reverse(numbers)
			d.Restart(numbers...)
			expectAll(t, d, wantedSectors(safe, at, kept)...)
			if t.Failed() {
				t.Fatalf("writes of %v, kept %v", at, numbers)
			}
		}
		if len(at) == 5 {
			continue
		}
		for i := range 3 {
			lists = append(lists, append(slices.Clone(at), i))
		}
	}
}
