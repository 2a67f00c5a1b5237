package bank_test

import (
	"math"
	"strings"
	"testing"

	"toponym/api"
	"toponym/sector"
)

// five is a bank of five frames, one of which is noughts, and one nearly so.
func five(t *testing.T) (*sector.Device, place, []string) {
	p := place{3, 6}
	l := []string{framed(62, text(1, 62)), framed(1, "a"), noughts(), strings.Repeat("\x00", 63) + "\x01", framed(0, text(2, 62))}
	return with(t, p, l...), p, l
}

// P7.1: from a frame on, each that isn't noughts is written, and no other.
func TestWipe(t *testing.T) {
	for _, x := range []struct{ at, writes int }{
		{1, 4},
		{2, 3},
		{3, 2},
		{4, 2},
		{5, 1},
		{6, 0},
		{7, 0},
		{8, 0},
		{100, 0},
		{math.MaxInt32, 0},
		{1 << 32, 0},
		{1<<32 + 1, 0},
		{math.MaxInt - 3, 0},
		{math.MaxInt - 1, 0},
		{math.MaxInt, 0},
		{0, 4},
		{-1, 4},
		{-3, 4},
		{-100, 4},
		{math.MinInt32, 4},
		{-1 << 32, 4},
		{-1<<32 + 5, 4},
		{math.MinInt + 1, 4},
		{math.MinInt, 4},
	} {
		d, p, l := five(t)
		wipe(t, d, p, x.at, x.writes)
		expectFrames(t, d, p, l[:min(max(x.at, 1)-1, 5)]...)
		wipe(t, d, p, x.at, 0)
		flush(t, d)
		wipe(t, d, p, x.at, 0)
	}
}

// P7.1: any byte of a frame makes it one that isn't noughts.
func TestWipeAnyByte(t *testing.T) {
	p := place{1, 4}
	for at := range api.Sector {
		for _, b := range []byte{1, 0x80, 0xff} {
			bytes := make([]byte, api.Sector)
			bytes[at] = b
			d := with(t, p, noughts(), string(bytes))
			wipe(t, d, p, 1, 1)
			expectFrames(t, d, p)
		}
	}
}

// P7.1: in order, the first one first.
func TestWipeOrder(t *testing.T) {
	for kept := range 4 {
		d, p, l := five(t)
		wipe(t, d, p, 1, 4)
		d.Restart(kept)
		l[[]int{0, 1, 3, 4}[kept]] = noughts()
		expectFrames(t, d, p, l...)
	}
}

// P7.1: from the end on, records stay, and what stood behind them goes.
func TestWipeFromTheEnd(t *testing.T) {
	p := place{2, 9}
	a, b, old := text(1, 100), text(2, 3), text(9, 180)
	d := with(t, p, frames(a)[0], frames(a)[1], frames(b)[0], noughts(), frames(old)[1], frames(old)[2], noughts(), framed(1, "z"))
	expectScan(t, d, p, 4, a, b)
	wipe(t, d, p, 4, 3)
	expectScan(t, d, p, 4, a, b)
	expectFrames(t, d, p, frames(a)[0], frames(a)[1], frames(b)[0])
	next := write(t, d, p, 4, "c")
	expectScan(t, d, p, next, a, b, "c")
}

// P7.1: a full bank, and one of noughts, wiped from the frame 1 on.
func TestWipeAll(t *testing.T) {
	for _, size := range []int{1, 2, 3, 9, 500} {
		p := place{1, size}
		d := around(t, p)
		wipe(t, d, p, 1, 0)
		for frame := 1; frame < size; frame++ {
			write(t, d, p, frame, text(frame, 62))
		}
		expectScan(t, d, p, size, frames62(size-1)...)
		flush(t, d)
		wipe(t, d, p, 1, size-1)
		expectFrames(t, d, p)
		expectScan(t, d, p, 1)
		wipe(t, d, p, 1, 0)
		wipe(t, d, p, size, 0)
		wipe(t, d, p, size+1, 0)
	}
}

// frames62 are the records of so many frames, each of 62 bytes.
func frames62(count int) []string {
	l := make([]string, count)
	for i := range l {
		l[i] = text(i+1, 62)
	}
	return l
}

// P7.1: nothing is safe till it is flushed: Write and Wipe flush nothing.
func TestNothingIsFlushed(t *testing.T) {
	d, p, l := five(t)
	wipe(t, d, p, 1, 4)
	write(t, d, p, 2, text(5, 63))
	setEpoch(t, d, p.from, 7)
	d.Restart()
	expectFrames(t, d, p, l...)
}
