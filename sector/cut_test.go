package sector_test

import (
	"math"
	"testing"

	"toponym/api"
	"toponym/sector"
)

// expectLost asks every call that needs power, with whatever is handed in, and
// those that need none.
func expectLost(t *testing.T, d *sector.Device, size, pending int) {
	t.Helper()
	for range 2 {
		for _, i := range append(noSectors(size), 0, size-1) {
			expectNoGet(t, d, i, api.ErrLost)
			expectPut(t, d, i, full(7), api.ErrLost)
			for _, b := range wrongBytes() {
				expectPut(t, d, i, b, api.ErrLost)
			}
		}
		expectFlush(t, d, api.ErrLost)
		expectSize(t, d, size)
		expectPending(t, d, pending)
	}
}

// P6.1: just so many writes go, and the next call is lost, whichever it is.
func TestCut(t *testing.T) {
	firsts := map[string]func(t *testing.T, d *sector.Device){
		"Put":       func(t *testing.T, d *sector.Device) { expectPut(t, d, 0, full(9), api.ErrLost) },
		"Put wrong": func(t *testing.T, d *sector.Device) { expectPut(t, d, 5, "", api.ErrLost) },
		"Get":       func(t *testing.T, d *sector.Device) { expectNoGet(t, d, 0, api.ErrLost) },
		"Get wrong": func(t *testing.T, d *sector.Device) { expectNoGet(t, d, -1, api.ErrLost) },
		"Flush":     func(t *testing.T, d *sector.Device) { expectFlush(t, d, api.ErrLost) },
	}
	for name, first := range firsts {
		for _, writes := range []int{0, 1, 2, 3, 10} {
			d := sector.New(3)
			d.Cut(writes)
			for n := range writes {
				put(t, d, n%3, marked(n))
				if n < writes-1 {
					expectGet(t, d, n%3, marked(n))
				}
			}
			first(t, d)
			if t.Failed() {
				t.Fatalf("%s behind Cut(%d)", name, writes)
			}
			expectLost(t, d, 3, writes)
		}
	}
}

// P6.1: behind Cut(0) power is gone at once: what was pending is so still.
func TestCutNow(t *testing.T) {
	d := sector.New(2)
	d.Cut(0)
	expectLost(t, d, 2, 0)
	d = sector.New(2)
	put(t, d, 0, full(1))
	expectFlush(t, d, api.OK)
	put(t, d, 0, full(2))
	put(t, d, 1, full(3))
	d.Cut(0)
	expectLost(t, d, 2, 2)
	d.Restart(1)
	expectAll(t, d, full(1), full(3))
}

// P6.1: behind Cut(1) one write goes; what reads, flushes, or goes wrong, is
// none.
func TestCutOne(t *testing.T) {
	d := sector.New(2)
	put(t, d, 0, full(1))
	d.Cut(1)
	for range 3 {
		expectAll(t, d, full(1), noughts())
		expectNoGet(t, d, 2, api.ErrArg)
		expectFlush(t, d, api.OK)
		expectPut(t, d, 2, full(2), api.ErrArg)
		expectPut(t, d, -1, full(2), api.ErrArg)
		for _, b := range wrongBytes() {
			expectPut(t, d, 0, b, api.ErrArg)
		}
		expectPending(t, d, 0)
	}
	put(t, d, 1, full(3))
	expectLost(t, d, 2, 1)
}

// P6.1: flushes between the writes spend nothing, and what they made safe
// stays.
func TestCutFlushes(t *testing.T) {
	d := sector.New(3)
	d.Cut(3)
	for i := range 2 {
		put(t, d, i, marked(i))
		expectFlush(t, d, api.OK)
		expectFlush(t, d, api.OK)
	}
	put(t, d, 2, marked(2))
	expectLost(t, d, 3, 1)
	d.Restart()
	expectAll(t, d, marked(0), marked(1), noughts())
}

// P6.1: where fewer writes come than go, nothing is lost.
func TestCutFar(t *testing.T) {
	for _, writes := range []int{5, 6, 1000, math.MaxInt32, 1 << 32, math.MaxInt - 1, math.MaxInt} {
		d := sector.New(2)
		d.Cut(writes)
		for n := range 4 {
			put(t, d, n%2, marked(n))
		}
		expectAll(t, d, marked(2), marked(3))
		expectFlush(t, d, api.OK)
		d.Restart()
		expectAll(t, d, marked(2), marked(3))
	}
}

// P6.1: below 0 power isn't to be cut, also behind another Cut.
func TestCutBelowNought(t *testing.T) {
	for _, below := range []int{-1, -2, math.MinInt32, -1 << 32, math.MinInt + 1, math.MinInt} {
		for _, writes := range []int{-1, 1, 2, 5} {
			d := sector.New(2)
			d.Cut(writes)
			if writes > 1 {
				put(t, d, 0, full(1))
			}
			d.Cut(below)
			for n := range 10 {
				put(t, d, n%2, marked(n))
			}
			expectAll(t, d, marked(8), marked(9))
			expectFlush(t, d, api.OK)
		}
	}
}

// P6.1: the last Cut holds, where power isn't gone yet.
func TestCutAgain(t *testing.T) {
	for _, x := range []struct{ first, between, second int }{
		{1, 0, 3}, {3, 0, 1}, {5, 2, 2}, {2, 1, 2}, {-1, 1, 2}, {3, 2, 0}, {4, 1, 4},
	} {
		d := sector.New(1)
		d.Cut(x.first)
		for range x.between {
			put(t, d, 0, full(1))
		}
		d.Cut(x.second)
		for range x.second {
			put(t, d, 0, full(2))
		}
		expectLost(t, d, 1, x.between+x.second)
	}
}

// P6.1: where power is gone, Cut does nothing.
func TestCutGone(t *testing.T) {
	for _, writes := range []int{0, 1, 3} {
		for _, again := range []int{-1, 0, 1, 100, math.MinInt, math.MaxInt} {
			d := sector.New(2)
			d.Cut(writes)
			for n := range writes {
				put(t, d, 0, marked(n))
			}
			d.Cut(again)
			expectLost(t, d, 2, writes)
			d.Cut(again)
			expectLost(t, d, 2, writes)
			d.Restart()
			put(t, d, 0, full(1))
			put(t, d, 1, full(2))
			expectAll(t, d, full(1), full(2))
		}
	}
}

// P6.1: a write that is lost isn't made, and a flush that is lost makes nothing
// safe.
func TestLostCallsDoNothing(t *testing.T) {
	d := sector.New(2)
	put(t, d, 0, full(1))
	d.Cut(0)
	expectPut(t, d, 0, full(2), api.ErrLost)
	expectPut(t, d, 1, full(3), api.ErrLost)
	expectFlush(t, d, api.ErrLost)
	expectPending(t, d, 1)
	d.Restart(1, 2)
	expectAll(t, d, noughts(), noughts())
	put(t, d, 0, full(1))
	d.Cut(1)
	put(t, d, 1, full(4))
	expectPut(t, d, 0, full(2), api.ErrLost)
	expectFlush(t, d, api.ErrLost)
	d.Restart(0, 1, 2)
	expectAll(t, d, full(1), full(4))
	expectPending(t, d, 0)
}

// P6.2: behind a restart power isn't to be cut any more, whether it was gone or
// would have gone.
func TestRestartNoCut(t *testing.T) {
	for _, writes := range []int{-1, 0, 1, 2, 3, 10} {
		d := sector.New(2)
		d.Cut(writes)
		if writes != 0 {
			put(t, d, 0, full(1))
		}
		d.Restart(0)
		for n := range 12 {
			put(t, d, n%2, marked(n))
		}
		expectAll(t, d, marked(10), marked(11))
		expectPending(t, d, 12)
		expectFlush(t, d, api.OK)
		d.Cut(1)
		put(t, d, 0, full(2))
		expectLost(t, d, 2, 1)
	}
}
