package sector_test

import (
	"math"
	"strings"
	"testing"

	"toponym/api"
	"toponym/sector"
)

// full is a sector's bytes, all of them b.
func full(b byte) string {
	return strings.Repeat(string([]byte{b}), api.Sector)
}

// marked is a sector's bytes that differ from place to place, and by n.
func marked(n int) string {
	b := make([]byte, api.Sector)
	for at := range b {
		b[at] = byte(n*131 + at*7)
	}
	b[0] = byte(n >> 8)
	b[1] = byte(n)
	return string(b)
}

func noughts() string {
	return full(0)
}

func expectGet(t *testing.T, d *sector.Device, i int, want string) {
	t.Helper()
	if b, err := d.Get(i); b != want || err != api.OK {
		t.Errorf("Get(%d) = % x, %d; want % x, OK", i, b, err, want)
	}
}

func expectNoGet(t *testing.T, d *sector.Device, i int, want api.Errno) {
	t.Helper()
	if b, err := d.Get(i); b != "" || err != want {
		t.Errorf("Get(%d) = % x, %d; want \"\", %d", i, b, err, want)
	}
}

func expectPut(t *testing.T, d *sector.Device, i int, b string, want api.Errno) {
	t.Helper()
	if err := d.Put(i, b); err != want {
		t.Errorf("Put(%d, %d bytes) = %d; want %d", i, len(b), err, want)
	}
}

func expectFlush(t *testing.T, d *sector.Device, want api.Errno) {
	t.Helper()
	if err := d.Flush(); err != want {
		t.Errorf("Flush() = %d; want %d", err, want)
	}
}

func expectPending(t *testing.T, d *sector.Device, want int) {
	t.Helper()
	if n := d.Pending(); n != want {
		t.Errorf("Pending() = %d; want %d", n, want)
	}
}

func expectSize(t *testing.T, d *sector.Device, want int) {
	t.Helper()
	if n := d.Size(); n != want {
		t.Errorf("Size() = %d; want %d", n, want)
	}
}

// expectAll is given what stands in each sector, from the first one on.
func expectAll(t *testing.T, d *sector.Device, want ...string) {
	t.Helper()
	expectSize(t, d, len(want))
	for i, b := range want {
		expectGet(t, d, i, b)
	}
}

// put writes where that must go right.
func put(t *testing.T, d *sector.Device, i int, b string) {
	t.Helper()
	expectPut(t, d, i, b, api.OK)
}

// P6.1: so many sectors, from 0 to MaxSectors, else the nearer of both.
func TestNew(t *testing.T) {
	for _, x := range []struct{ sectors, size int }{
		{0, 0},
		{1, 1},
		{2, 2},
		{7, 7},
		{64, 64},
		{1000, 1000},
		{api.MaxSectors - 1, api.MaxSectors - 1},
		{api.MaxSectors, api.MaxSectors},
		{api.MaxSectors + 1, api.MaxSectors},
		{2 * api.MaxSectors, api.MaxSectors},
		{math.MaxInt32, api.MaxSectors},
		{1 << 32, api.MaxSectors},
		{1<<32 + 1, api.MaxSectors},
		{math.MaxInt, api.MaxSectors},
		{-1, 0},
		{-2, 0},
		{-api.MaxSectors, 0},
		{math.MinInt32, 0},
		{-1<<32 + 1, 0},
		{math.MinInt, 0},
	} {
		d := sector.New(x.sectors)
		if d.Size() != x.size {
			t.Errorf("New(%d) has %d sectors; want %d", x.sectors, d.Size(), x.size)
		}
		expectPending(t, d, 0)
		expectFlush(t, d, api.OK)
		expectNoGet(t, d, x.size, api.ErrArg)
		expectPut(t, d, x.size, full(1), api.ErrArg)
	}
}

// P6.1: noughts at first.
func TestNoughts(t *testing.T) {
	for _, sectors := range []int{1, 2, 7, api.MaxSectors} {
		d := sector.New(sectors)
		for i := range sectors {
			expectGet(t, d, i, noughts())
		}
	}
}

// P6.1: a device of no sectors has nothing to read or to write.
func TestNoSectors(t *testing.T) {
	for _, sectors := range []int{0, -1} {
		d := sector.New(sectors)
		for _, i := range []int{0, 1, -1} {
			expectNoGet(t, d, i, api.ErrArg)
			expectPut(t, d, i, full(1), api.ErrArg)
		}
		expectFlush(t, d, api.OK)
		d.Restart(0, 1)
		expectPending(t, d, 0)
		d.Cut(1)
		expectFlush(t, d, api.OK)
		d.Cut(0)
		expectFlush(t, d, api.ErrLost)
		expectNoGet(t, d, 0, api.ErrLost)
		expectPut(t, d, 0, full(1), api.ErrLost)
		expectSize(t, d, 0)
	}
}

// P6.1: the first sector, the last one, and each between is written by itself.
func TestPutGet(t *testing.T) {
	for _, sectors := range []int{1, 2, 7, api.MaxSectors} {
		d := sector.New(sectors)
		put(t, d, 0, full(0xff))
		expectGet(t, d, 0, full(0xff))
		put(t, d, sectors-1, marked(sectors))
		expectGet(t, d, sectors-1, marked(sectors))
		for i := 1; i < sectors-1; i++ {
			expectGet(t, d, i, noughts())
		}
		for i := range sectors {
			put(t, d, i, marked(i))
		}
		for i := range sectors {
			expectGet(t, d, i, marked(i))
		}
		expectPending(t, d, sectors+2)
	}
}

// P6.1: each byte is kept in its place, whatever it is.
func TestPutBytes(t *testing.T) {
	d := sector.New(4)
	for i := range 4 {
		var b strings.Builder
		for at := range api.Sector {
			b.WriteByte(byte(i*api.Sector + at))
		}
		put(t, d, i, b.String())
		expectGet(t, d, i, b.String())
	}
}

// P6.1: what is written is read at once, and written again, read anew.
func TestPutAgain(t *testing.T) {
	d := sector.New(3)
	for n := 1; n <= 5; n++ {
		put(t, d, 1, marked(n))
		expectAll(t, d, noughts(), marked(n), noughts())
		expectGet(t, d, 1, marked(n))
		expectPending(t, d, n)
	}
	expectFlush(t, d, api.OK)
	expectAll(t, d, noughts(), marked(5), noughts())
	put(t, d, 1, noughts())
	expectAll(t, d, noughts(), noughts(), noughts())
	expectPending(t, d, 1)
}

func noSectors(size int) []int {
	return []int{-1, -2, -size, size, size + 1, 2 * size, api.MaxSectors, math.MinInt, math.MinInt32, math.MaxInt32, 1 << 32, 1<<32 + 1, -1 << 32, math.MaxInt}
}

// P6.1: of no sector, nothing is read, and nothing written.
func TestNoSuchSector(t *testing.T) {
	d := sector.New(3)
	for i := range 3 {
		put(t, d, i, marked(i))
	}
	expectFlush(t, d, api.OK)
	for _, i := range noSectors(3) {
		expectNoGet(t, d, i, api.ErrArg)
		expectPut(t, d, i, full(9), api.ErrArg)
		expectPut(t, d, i, "", api.ErrArg)
		expectPending(t, d, 0)
	}
	expectAll(t, d, marked(0), marked(1), marked(2))
}

func wrongBytes() []string {
	return []string{"", "a", full('a')[1:], full('a') + "a", full('a') + full('a'), strings.Repeat("a", 3), strings.Repeat("\x00", api.Sector-1), strings.Repeat("\x00", api.Sector+1), strings.Repeat("a", 100000), strings.Repeat("é", api.Sector)}
}

// P6.1: a sector is written whole, or not at all.
func TestPutWrongBytes(t *testing.T) {
	d := sector.New(2)
	for _, b := range wrongBytes() {
		for i := range 2 {
			expectPut(t, d, i, b, api.ErrArg)
			expectPending(t, d, 0)
		}
		expectAll(t, d, noughts(), noughts())
	}
	put(t, d, 0, full(1))
	for _, b := range wrongBytes() {
		expectPut(t, d, 0, b, api.ErrArg)
		expectPending(t, d, 1)
		expectAll(t, d, full(1), noughts())
	}
}

// P6.1: how many writes are pending, behind whatever call.
func TestPending(t *testing.T) {
	d := sector.New(2)
	expectPending(t, d, 0)
	put(t, d, 0, full(1))
	expectPending(t, d, 1)
	put(t, d, 1, full(2))
	expectPending(t, d, 2)
	put(t, d, 1, full(2))
	expectPending(t, d, 3)
	put(t, d, 0, noughts())
	expectPending(t, d, 4)
	expectPut(t, d, 2, full(1), api.ErrArg)
	expectPut(t, d, -1, full(1), api.ErrArg)
	expectPut(t, d, 0, "", api.ErrArg)
	expectPending(t, d, 4)
	expectGet(t, d, 0, noughts())
	expectNoGet(t, d, 2, api.ErrArg)
	expectPending(t, d, 4)
	d.Cut(5)
	d.Cut(-1)
	expectPending(t, d, 4)
	expectFlush(t, d, api.OK)
	expectPending(t, d, 0)
	expectFlush(t, d, api.OK)
	expectPending(t, d, 0)
	put(t, d, 0, full(3))
	expectPending(t, d, 1)
	d.Restart(0)
	expectPending(t, d, 0)
	put(t, d, 0, full(4))
	put(t, d, 0, full(5))
	expectPending(t, d, 2)
	d.Restart()
	expectPending(t, d, 0)
}

// P6.1: more writes wait than there are sectors.
func TestPendingMany(t *testing.T) {
	const count = 20000
	d := sector.New(5)
	for n := range count {
		put(t, d, n%5, marked(n))
	}
	expectPending(t, d, count)
	d.Restart(0, 1, 2, 3, 4, count-6)
	expectAll(t, d, marked(0), marked(1), marked(2), marked(3), marked(count-6))
	expectPending(t, d, 0)
}

// R7: what is done to one device is not done to another.
func TestTwoDevices(t *testing.T) {
	a, b := sector.New(2), sector.New(2)
	put(t, a, 0, full(1))
	expectPending(t, b, 0)
	expectAll(t, b, noughts(), noughts())
	put(t, b, 1, full(2))
	put(t, b, 0, full(3))
	expectAll(t, a, full(1), noughts())
	expectFlush(t, a, api.OK)
	expectPending(t, a, 0)
	expectPending(t, b, 2)
	a.Cut(0)
	expectFlush(t, a, api.ErrLost)
	expectAll(t, b, full(3), full(2))
	put(t, b, 0, full(4))
	expectPending(t, b, 3)
	b.Restart(0)
	expectAll(t, b, noughts(), full(2))
	expectNoGet(t, a, 0, api.ErrLost)
	b.Cut(1)
	a.Restart()
	put(t, a, 0, full(5))
	put(t, a, 1, full(6))
	put(t, b, 1, full(7))
	expectNoGet(t, b, 1, api.ErrLost)
	expectAll(t, a, full(5), full(6))
	expectPending(t, a, 2)
	expectPending(t, b, 1)
}
