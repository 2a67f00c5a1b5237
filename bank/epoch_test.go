package bank_test

import (
	"math"
	"strings"
	"testing"

	"toponym/api"
	"toponym/sector"
)

type headed struct {
	epoch uint64
	bytes string
}

// heads are told byte by byte.
func heads() []headed {
	l := []headed{
		{1, "\x00\x00\x00\x00\x00\x00\x00\x01\xff\xff\xff\xff\xff\xff\xff\xfe"},
		{2, "\x00\x00\x00\x00\x00\x00\x00\x02\xff\xff\xff\xff\xff\xff\xff\xfd"},
		{128, "\x00\x00\x00\x00\x00\x00\x00\x80\xff\xff\xff\xff\xff\xff\xff\x7f"},
		{255, "\x00\x00\x00\x00\x00\x00\x00\xff\xff\xff\xff\xff\xff\xff\xff\x00"},
		{256, "\x00\x00\x00\x00\x00\x00\x01\x00\xff\xff\xff\xff\xff\xff\xfe\xff"},
		{65535, "\x00\x00\x00\x00\x00\x00\xff\xff\xff\xff\xff\xff\xff\xff\x00\x00"},
		{1 << 32, "\x00\x00\x00\x01\x00\x00\x00\x00\xff\xff\xff\xfe\xff\xff\xff\xff"},
		{0x0123456789abcdef, "\x01\x23\x45\x67\x89\xab\xcd\xef\xfe\xdc\xba\x98\x76\x54\x32\x10"},
		{math.MaxInt64, "\x7f\xff\xff\xff\xff\xff\xff\xff\x80\x00\x00\x00\x00\x00\x00\x00"},
		{1 << 63, "\x80\x00\x00\x00\x00\x00\x00\x00\x7f\xff\xff\xff\xff\xff\xff\xff"},
		{math.MaxUint64 - 1, "\xff\xff\xff\xff\xff\xff\xff\xfe\x00\x00\x00\x00\x00\x00\x00\x01"},
		{math.MaxUint64, "\xff\xff\xff\xff\xff\xff\xff\xff\x00\x00\x00\x00\x00\x00\x00\x00"},
	}
	for i := range l {
		l[i].bytes += strings.Repeat("\x00", 48)
	}
	return l
}

// P7.2: the head's bytes, and what is read of them.
func TestEpoch(t *testing.T) {
	for _, h := range heads() {
		for _, p := range []place{{0, 1}, {0, 5}, {3, 1}, {3, 4}} {
			d := around(t, p)
			expectEpoch(t, d, p.from, 0)
			setEpoch(t, d, p.from, h.epoch)
			expectSector(t, d, p.from, h.bytes)
			expectEpoch(t, d, p.from, h.epoch)
			setEpoch(t, d, p.from, h.epoch)
			expectEpoch(t, d, p.from, h.epoch)
			put(t, d, p.from, mark(p.from))
			expectFrames(t, d, p)
			put(t, d, p.from, h.bytes)
			expectEpoch(t, d, p.from, h.epoch)
		}
	}
}

// P7.2: of 0 noughts are written, which are of none.
func TestEpochNone(t *testing.T) {
	d := sector.New(3)
	for i := range 3 {
		expectEpoch(t, d, i, 0)
	}
	for _, h := range heads() {
		setEpoch(t, d, 1, h.epoch)
		expectEpoch(t, d, 1, h.epoch)
		setEpoch(t, d, 1, 0)
		expectSector(t, d, 1, noughts())
		expectEpoch(t, d, 1, 0)
		setEpoch(t, d, 1, 0)
		expectEpoch(t, d, 1, 0)
	}
}

// P7.2: an epoch of 0 has no head, though its bytes stand as they should.
func TestEpochNought(t *testing.T) {
	d := sector.New(1)
	put(t, d, 0, strings.Repeat("\x00", 8)+strings.Repeat("\xff", 8)+strings.Repeat("\x00", 48))
	expectEpoch(t, d, 0, 0)
	put(t, d, 0, strings.Repeat("\xff", 64))
	expectEpoch(t, d, 0, 0)
	put(t, d, 0, strings.Repeat("\xff", 16)+strings.Repeat("\x00", 48))
	expectEpoch(t, d, 0, 0)
	put(t, d, 0, framed(3, "abc"))
	expectEpoch(t, d, 0, 0)
}

// P7.2: a head of which one byte is another is of none, whichever it is.
func TestEpochOneByte(t *testing.T) {
	for _, h := range heads() {
		d := sector.New(2)
		for at := range api.Sector {
			for by := 1; by < 256; by++ {
				b := []byte(h.bytes)
				b[at] ^= byte(by)
				put(t, d, 1, string(b))
				expectEpoch(t, d, 1, 0)
			}
		}
		put(t, d, 1, h.bytes)
		expectEpoch(t, d, 1, h.epoch)
	}
}

// P7.2: the epoch's bytes, turned about, are of none, or another's.
func TestEpochTurned(t *testing.T) {
	d := sector.New(1)
	one := heads()[0].bytes
	put(t, d, 0, one[8:16]+one[:8]+one[16:])
	expectEpoch(t, d, 0, math.MaxUint64-1)
	put(t, d, 0, one[:8]+one[:8]+one[16:])
	expectEpoch(t, d, 0, 0)
	put(t, d, 0, "\x01"+strings.Repeat("\x00", 7)+"\xfe"+strings.Repeat("\xff", 7)+one[16:])
	expectEpoch(t, d, 0, 1<<56)
	put(t, d, 0, one[:8]+"\xfe"+strings.Repeat("\xff", 7)+one[16:])
	expectEpoch(t, d, 0, 0)
}

// P7.2: all bits of an epoch, one by one.
func TestEpochBits(t *testing.T) {
	d := sector.New(1)
	for bit := range 64 {
		setEpoch(t, d, 0, 1<<bit)
		expectEpoch(t, d, 0, 1<<bit)
		setEpoch(t, d, 0, ^(uint64(1) << bit))
		expectEpoch(t, d, 0, ^(uint64(1) << bit))
	}
}

// P7.2: a head is a sector of the device.
func TestEpochNoSector(t *testing.T) {
	d := sector.New(3)
	for i := range 3 {
		setEpoch(t, d, i, uint64(i)+1)
	}
	for _, from := range []int{-1, -2, -3, 3, 4, 6, api.MaxSectors, math.MinInt32, math.MaxInt32, 1 << 32, 1<<32 + 1, -1 << 32, math.MinInt, math.MaxInt} {
		expectNoEpoch(t, d, from, api.ErrArg)
		for _, epoch := range []uint64{0, 1, math.MaxUint64} {
			expectNoSetEpoch(t, d, from, epoch, api.ErrArg)
		}
	}
	for i := range 3 {
		expectEpoch(t, d, i, uint64(i)+1)
	}
}

// P7.1, P7.2: the head isn't touched by Write and Wipe, and the frames not by
// SetEpoch.
func TestHeadStays(t *testing.T) {
	p := place{2, 6}
	d := sector.New(9)
	setEpoch(t, d, p.from, 77)
	for _, at := range []int{1, 0, -1, -2, -3, math.MinInt} {
		if at < 1 {
			expectNoWrite(t, d, p, at, "a", api.ErrArg)
		}
		next := write(t, d, p, 1, text(1, 250))
		expectEpoch(t, d, p.from, 77)
		expectScan(t, d, p, next, text(1, 250))
		wipe(t, d, p, at, 5)
		expectEpoch(t, d, p.from, 77)
	}
	next := write(t, d, p, 1, text(2, 250))
	for _, epoch := range []uint64{78, 0, math.MaxUint64} {
		setEpoch(t, d, p.from, epoch)
		expectScan(t, d, p, next, text(2, 250))
	}
}
