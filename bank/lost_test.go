package bank_test

import (
	"math"
	"testing"

	"toponym/api"
	"toponym/bank"
	"toponym/sector"
)

// expectLost asks each call, with what is right and what is wrong, and what
// would touch no sector.
func expectLost(t *testing.T, d *sector.Device) {
	t.Helper()
	for _, p := range append(noBanks(), place{0, 1}, place{0, 8}, place{1, 1}, place{2, 3}, place{7, 1}) {
		expectNoScan(t, d, p, api.ErrLost)
		for _, at := range []int{math.MinInt, -1, 0, 1, 2, 3, 8, 100, math.MaxInt} {
			for _, record := range []string{"", "a", text(1, 100), text(1, api.MaxImage+1)} {
				expectNoWrite(t, d, p, at, record, api.ErrLost)
			}
			expectNoWipe(t, d, p, at, api.ErrLost)
		}
	}
	for _, from := range []int{0, 1, 7, 8, -1, math.MinInt, math.MaxInt} {
		expectNoEpoch(t, d, from, api.ErrLost)
		for _, epoch := range []uint64{0, 1, math.MaxUint64} {
			expectNoSetEpoch(t, d, from, epoch, api.ErrLost)
		}
	}
}

// P7.1, P7.2: where power is gone all calls are ErrLost, ahead of all else.
func TestLost(t *testing.T) {
	p := place{1, 6}
	d := sector.New(8)
	setEpoch(t, d, p.from, 5)
	flush(t, d)
	write(t, d, p, 1, "a")
	write(t, d, p, 2, "b")
	d.Cut(0)
	expectLost(t, d)
	expectPending(t, d, 2)
	if n := bank.Frames(63); n != 2 {
		t.Errorf("Frames(63) = %d", n)
	}
	d.Restart(0)
	expectScan(t, d, p, 2, "a")
	expectEpoch(t, d, p.from, 5)
	d.Cut(1)
	write(t, d, p, 2, "c")
	expectLost(t, d)
	d.Restart()
	expectScan(t, d, p, 2, "a")
}

// P7.1, P7.2: also of a device that has no sectors.
func TestLostNoSectors(t *testing.T) {
	d := sector.New(0)
	d.Cut(0)
	expectLost(t, d)
}

// P7.1: where power goes on Write's way, the frames ahead were written; where it
// goes behind the last one, that is for the next call to tell.
func TestWriteCut(t *testing.T) {
	p := place{3, 9}
	a, record := text(1, 62), text(2, 5*62+1)
	for writes := range 10 {
		d := with(t, p, frames(a)...)
		put(t, d, p.from+1, frames(a)[0])
		d.Cut(writes)
		next, err := bank.Write(d, p.from, p.size, 2, record)
		switch {
		case writes < 6 && (next != 0 || err != api.ErrLost):
			t.Errorf("of %d writes: %d, %d; want 0, ErrLost", writes, next, err)
		case writes >= 6 && (next != 8 || err != api.OK):
			t.Errorf("of %d writes: %d, %d; want 8, OK", writes, next, err)
		}
		expectPending(t, d, 1+min(writes, 6))
		if writes <= 6 {
			expectNoScan(t, d, p, api.ErrLost)
		}
		d.Restart(1, 2, 3, 4, 5, 6)
		expectFrames(t, d, p, append(frames(a), frames(record)[:min(writes, 6)]...)...)
		if writes < 6 {
			expectScan(t, d, p, 2, a)
		} else {
			expectScan(t, d, p, 8, a, record)
		}
	}
}

// P7.1: the like of Wipe; a frame of noughts behind the last write is asked for
// too late.
func TestWipeCut(t *testing.T) {
	for _, x := range []struct {
		at, writes, made int
		want             api.Errno
	}{
		{1, 0, 0, api.ErrLost},
		{1, 1, 1, api.ErrLost},
		{1, 2, 2, api.ErrLost},
		{1, 3, 3, api.ErrLost},
		{1, 4, 4, api.OK},
		{1, 5, 4, api.OK},
		{0, 3, 3, api.ErrLost},
		{-9, 4, 4, api.OK},
		{3, 0, 0, api.ErrLost},
		{3, 1, 1, api.ErrLost},
		{3, 2, 2, api.OK},
		{5, 1, 1, api.OK},
		{6, 1, 0, api.OK},
		{6, 0, 0, api.ErrLost},
	} {
		d, p, l := five(t)
		d.Cut(x.writes)
		if err := bank.Wipe(d, p.from, p.size, x.at); err != x.want {
			t.Errorf("Wipe from %d on, of %d writes = %d; want %d", x.at, x.writes, err, x.want)
		}
		expectPending(t, d, x.made)
		d.Restart(0, 1, 2, 3)
		for i, left := max(x.at, 1)-1, x.made; left > 0; i++ {
			if l[i] != noughts() {
				l[i], left = noughts(), left-1
			}
		}
		expectFrames(t, d, p, l...)
	}
	p := place{1, 5}
	d := with(t, p, "a"+noughts()[1:])
	d.Cut(1)
	expectWipeLost(t, d, p)
	expectPending(t, d, 1)
}

func expectWipeLost(t *testing.T, d *sector.Device, p place) {
	t.Helper()
	if err := bank.Wipe(d, p.from, p.size, 1); err != api.ErrLost {
		t.Errorf("Wipe = %d; want ErrLost", err)
	}
}

// P7.1: a wipe that has nothing to write spends no write.
func TestWipeCutNothing(t *testing.T) {
	p := place{1, 5}
	d := around(t, p)
	d.Cut(1)
	wipe(t, d, p, 1, 0)
	expectScan(t, d, p, 1)
	write(t, d, p, 1, "a")
	expectWipeLost(t, d, p)
}

// P7.2: a head is one write.
func TestEpochCut(t *testing.T) {
	for _, kept := range []int{0, 1} {
		d := sector.New(4)
		setEpoch(t, d, 2, 5)
		flush(t, d)
		d.Cut(1)
		expectEpoch(t, d, 2, 5)
		setEpoch(t, d, 2, 6)
		expectNoEpoch(t, d, 2, api.ErrLost)
		expectNoSetEpoch(t, d, 2, 7, api.ErrLost)
		d.Restart(kept)
		expectEpoch(t, d, 2, uint64(6-kept))
		setEpoch(t, d, 2, 8)
		expectEpoch(t, d, 2, 8)
	}
}
