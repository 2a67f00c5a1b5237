package bank_test

import (
	"math"
	"slices"
	"strings"
	"testing"

	"toponym/api"
	"toponym/bank"
	"toponym/sector"
)

// text is n bytes that differ from place to place, and by seed; none of them is
// 0.
func text(seed, n int) string {
	b := make([]byte, n)
	for at := range b {
		b[at] = byte(1 + (seed*37+at*11+at/62*5)%255)
	}
	return string(b)
}

// drawer picks numbers from 0 on by a small sum.
func drawer() func(below int) int {
	state := uint32(1)
	return func(below int) int {
		state = state*1664525 + 1013904223
		return int(state>>16) % below
	}
}

func noughts() string {
	return strings.Repeat("\x00", api.Sector)
}

// mark is what stands in a sector that nobody should touch.
func mark(i int) string {
	return strings.Repeat(string([]byte{byte(0xa0 + i%7), byte(i)}), api.Sector/2)
}

// framed is a frame's bytes, of so many that are left, and noughts behind what
// is given of these.
func framed(left int, b string) string {
	return string([]byte{byte(left / 256), byte(left % 256)}) + b + strings.Repeat("\x00", 62-len(b))
}

// frames are what a record's frames should be, one by one.
func frames(record string) []string {
	var l []string
	for len(record) > 62 {
		l = append(l, framed(len(record), record[:62]))
		record = record[62:]
	}
	return append(l, framed(len(record), record))
}

// place is where a bank is on a device.
type place struct {
	from, size int
}

func put(t *testing.T, d *sector.Device, i int, b string) {
	t.Helper()
	if err := d.Put(i, b); err != api.OK {
		t.Fatalf("Put(%d) = %d", i, err)
	}
}

func flush(t *testing.T, d *sector.Device) {
	t.Helper()
	if err := d.Flush(); err != api.OK {
		t.Fatalf("Flush() = %d", err)
	}
}

// around is a device that has marks in the bank's head, and in all sectors but
// the bank's; the frames are noughts. Two more sectors stand behind the bank.
func around(t *testing.T, p place) *sector.Device {
	t.Helper()
	d := sector.New(p.from + p.size + 2)
	for i := range d.Size() {
		if i <= p.from || i >= p.from+p.size {
			put(t, d, i, mark(i))
		}
	}
	flush(t, d)
	return d
}

// with is the like, with these in the bank's frames, from 1 on.
func with(t *testing.T, p place, l ...string) *sector.Device {
	t.Helper()
	d := around(t, p)
	for i, b := range l {
		put(t, d, p.from+1+i, b)
	}
	flush(t, d)
	return d
}

func expectSector(t *testing.T, d *sector.Device, i int, want string) {
	t.Helper()
	if b, err := d.Get(i); b != want || err != api.OK {
		t.Errorf("sector %d: % x, %d; want % x, OK", i, b, err, want)
	}
}

// expectFrames is given what stands in the bank's frames from 1 on; behind
// these are noughts, and around the bank what around has put there.
func expectFrames(t *testing.T, d *sector.Device, p place, want ...string) {
	t.Helper()
	for i := range d.Size() {
		frame := i - p.from
		switch {
		case i <= p.from || i >= p.from+p.size:
			expectSector(t, d, i, mark(i))
		case frame <= len(want):
			expectSector(t, d, i, want[frame-1])
		default:
			expectSector(t, d, i, noughts())
		}
	}
}

func expectPending(t *testing.T, d *sector.Device, want int) {
	t.Helper()
	if n := d.Pending(); n != want {
		t.Errorf("Pending() = %d; want %d", n, want)
	}
}

func expectScan(t *testing.T, d *sector.Device, p place, end int, want ...string) {
	t.Helper()
	pending := d.Pending()
	l, e, err := bank.Scan(d, p.from, p.size)
	if !slices.Equal(l, want) || e != end || err != api.OK {
		t.Errorf("Scan(%d, %d) = %q, %d, %d; want %q, %d, OK", p.from, p.size, l, e, err, want, end)
	}
	expectPending(t, d, pending)
}

func expectNoScan(t *testing.T, d *sector.Device, p place, want api.Errno) {
	t.Helper()
	pending := d.Pending()
	if l, end, err := bank.Scan(d, p.from, p.size); len(l) != 0 || end != 0 || err != want {
		t.Errorf("Scan(%d, %d) = %q, %d, %d; want none, 0, %d", p.from, p.size, l, end, err, want)
	}
	expectPending(t, d, pending)
}

// write writes where that must go right, and checks how many sectors that
// takes.
func write(t *testing.T, d *sector.Device, p place, at int, record string) int {
	t.Helper()
	pending, want := d.Pending(), len(frames(record))
	next, err := bank.Write(d, p.from, p.size, at, record)
	if next != at+want || err != api.OK {
		t.Errorf("Write(%d, %d, %d, %d bytes) = %d, %d; want %d, OK", p.from, p.size, at, len(record), next, err, at+want)
	}
	expectPending(t, d, pending+want)
	return next
}

// expectNoWrite is for what goes wrong ahead of the first frame.
func expectNoWrite(t *testing.T, d *sector.Device, p place, at int, record string, want api.Errno) {
	t.Helper()
	pending := d.Pending()
	if next, err := bank.Write(d, p.from, p.size, at, record); next != 0 || err != want {
		t.Errorf("Write(%d, %d, %d, %d bytes) = %d, %d; want 0, %d", p.from, p.size, at, len(record), next, err, want)
	}
	expectPending(t, d, pending)
}

// wipe checks how many sectors are written.
func wipe(t *testing.T, d *sector.Device, p place, at, writes int) {
	t.Helper()
	pending := d.Pending()
	if err := bank.Wipe(d, p.from, p.size, at); err != api.OK {
		t.Errorf("Wipe(%d, %d, %d) = %d; want OK", p.from, p.size, at, err)
	}
	expectPending(t, d, pending+writes)
}

func expectNoWipe(t *testing.T, d *sector.Device, p place, at int, want api.Errno) {
	t.Helper()
	pending := d.Pending()
	if err := bank.Wipe(d, p.from, p.size, at); err != want {
		t.Errorf("Wipe(%d, %d, %d) = %d; want %d", p.from, p.size, at, err, want)
	}
	expectPending(t, d, pending)
}

func expectEpoch(t *testing.T, d *sector.Device, from int, want uint64) {
	t.Helper()
	pending := d.Pending()
	if epoch, err := bank.Epoch(d, from); epoch != want || err != api.OK {
		t.Errorf("Epoch(%d) = %d, %d; want %d, OK", from, epoch, err, want)
	}
	expectPending(t, d, pending)
}

func expectNoEpoch(t *testing.T, d *sector.Device, from int, want api.Errno) {
	t.Helper()
	pending := d.Pending()
	if epoch, err := bank.Epoch(d, from); epoch != 0 || err != want {
		t.Errorf("Epoch(%d) = %d, %d; want 0, %d", from, epoch, err, want)
	}
	expectPending(t, d, pending)
}

func setEpoch(t *testing.T, d *sector.Device, from int, epoch uint64) {
	t.Helper()
	pending := d.Pending()
	if err := bank.SetEpoch(d, from, epoch); err != api.OK {
		t.Errorf("SetEpoch(%d, %d) = %d; want OK", from, epoch, err)
	}
	expectPending(t, d, pending+1)
}

func expectNoSetEpoch(t *testing.T, d *sector.Device, from int, epoch uint64, want api.Errno) {
	t.Helper()
	pending := d.Pending()
	if err := bank.SetEpoch(d, from, epoch); err != want {
		t.Errorf("SetEpoch(%d, %d) = %d; want %d", from, epoch, err, want)
	}
	expectPending(t, d, pending)
}

// P7.1: 62 bytes a frame, and a frame for those that are left over.
func TestFrames(t *testing.T) {
	for _, x := range []struct{ n, want int }{
		{0, 0},
		{-1, 0},
		{-61, 0},
		{-62, 0},
		{-63, 0},
		{-64, 0},
		{-1000, 0},
		{math.MinInt32, 0},
		{-1<<32 + 1, 0},
		{math.MinInt + 1, 0},
		{math.MinInt, 0},
		{1, 1},
		{2, 1},
		{61, 1},
		{62, 1},
		{63, 2},
		{64, 2},
		{65, 2},
		{124, 2},
		{125, 3},
		{128, 3},
		{186, 3},
		{187, 4},
		{255, 5},
		{256, 5},
		{1000, 17},
		{59954, 967},
		{59955, 968},
		{api.MaxImage - 1, 968},
		{api.MaxImage, 968},
	} {
		if n := bank.Frames(x.n); n != x.want {
			t.Errorf("Frames(%d) = %d; want %d", x.n, n, x.want)
		}
	}
}

// P7.1: of each record, counted up byte by byte.
func TestFramesAll(t *testing.T) {
	count, filled := 0, 62
	for n := 1; n <= api.MaxImage; n++ {
		if filled == 62 {
			count, filled = count+1, 0
		}
		filled++
		if got := bank.Frames(n); got != count {
			t.Fatalf("Frames(%d) = %d; want %d", n, got, count)
		}
	}
}

// noBanks are none of a device of eight sectors.
func noBanks() []place {
	return []place{
		{-1, 1}, {-1, 2}, {-1, 4}, {-1, 8}, {-1, 9}, {-8, 8}, {-8, 16}, {-4, 4}, {-2, 1},
		{0, 9}, {1, 8}, {2, 7}, {4, 5}, {7, 2}, {7, 3}, {0, 10}, {0, 16}, {0, api.MaxSectors},
		{8, 1}, {8, 2}, {9, 1}, {16, 1}, {100, 1}, {api.MaxSectors, 1},
		{0, 0}, {3, 0}, {7, 0}, {8, 0}, {-1, 0}, {0, -1}, {3, -1}, {7, -1}, {7, -7}, {8, -1}, {8, -8}, {16, -8}, {0, -8}, {-1, -1}, {-8, -8},
		{0, math.MinInt}, {3, math.MinInt}, {math.MinInt, math.MinInt}, {math.MaxInt, math.MinInt},
		{0, math.MaxInt}, {1, math.MaxInt}, {7, math.MaxInt}, {8, math.MaxInt}, {-1, math.MaxInt}, {-8, math.MaxInt},
		{math.MaxInt, 1}, {math.MaxInt, 0}, {math.MaxInt, 2}, {math.MaxInt, math.MaxInt}, {math.MaxInt - 1, 4},
		{math.MinInt, 1}, {math.MinInt, 8}, {math.MinInt, 0}, {math.MinInt, math.MaxInt}, {math.MinInt + 1, math.MaxInt},
		{1 << 32, 1}, {1<<32 + 1, 2}, {-1 << 32, 1}, {0, 1<<32 + 4}, {0, -1<<32 + 4}, {math.MaxInt32, 1}, {math.MinInt32, 1},
	}
}

// P7.1: what isn't on the device is no bank, nor what has no sector.
func TestNoBank(t *testing.T) {
	d := sector.New(8)
	for i := range 8 {
		put(t, d, i, framed(3, "abc"))
	}
	flush(t, d)
	for _, p := range noBanks() {
		expectNoScan(t, d, p, api.ErrArg)
		for _, at := range []int{1, 2, 7, 8, 100} {
			expectNoWrite(t, d, p, at, "a", api.ErrArg)
			expectNoWipe(t, d, p, at, api.ErrArg)
		}
		expectNoWipe(t, d, p, 0, api.ErrArg)
		expectNoWipe(t, d, p, -1, api.ErrArg)
	}
	for i := range 8 {
		expectSector(t, d, i, framed(3, "abc"))
	}
}

// P7.1: a device of no sectors has no bank.
func TestNoSectors(t *testing.T) {
	d := sector.New(0)
	for _, p := range []place{{0, 1}, {0, 0}, {1, 1}, {-1, 1}, {-1, 2}, {0, -1}, {1, -1}} {
		expectNoScan(t, d, p, api.ErrArg)
		expectNoWrite(t, d, p, 1, "a", api.ErrArg)
		expectNoWipe(t, d, p, 1, api.ErrArg)
	}
	expectNoEpoch(t, d, 0, api.ErrArg)
	expectNoSetEpoch(t, d, 0, 1, api.ErrArg)
}

// P7.1: each bank that is on the device is one, up to its last sector.
func TestBanks(t *testing.T) {
	for from := range 8 {
		for size := 1; from+size <= 8; size++ {
			d, p := sector.New(8), place{from, size}
			expectScan(t, d, p, 1)
			wipe(t, d, p, 1, 0)
			for frame := 1; frame < size; frame++ {
				write(t, d, p, frame, text(frame, 62))
			}
			expectNoWrite(t, d, p, size, "a", api.ErrFull)
			for i := range 8 {
				if i > from && i < from+size {
					expectSector(t, d, i, framed(62, text(i-from, 62)))
				} else {
					expectSector(t, d, i, noughts())
				}
			}
			wipe(t, d, p, 1, size-1)
			expectScan(t, d, p, 1)
		}
	}
}

// P7.1, P7.2: what is done to a bank isn't done to its neighbour.
func TestSideBySide(t *testing.T) {
	a, b := place{2, 5}, place{7, 5}
	d := sector.New(14)
	put(t, d, 1, mark(1))
	put(t, d, 12, mark(12))
	setEpoch(t, d, a.from, 3)
	setEpoch(t, d, b.from, 4)
	write(t, d, a, 1, text(1, 4*62))
	expectScan(t, d, a, 5, text(1, 4*62))
	expectScan(t, d, b, 1)
	write(t, d, b, write(t, d, b, 1, text(2, 100)), text(3, 62))
	expectScan(t, d, a, 5, text(1, 4*62))
	expectScan(t, d, b, 4, text(2, 100), text(3, 62))
	expectNoWrite(t, d, a, 5, "a", api.ErrFull)
	wipe(t, d, a, 1, 4)
	expectScan(t, d, a, 1)
	expectScan(t, d, b, 4, text(2, 100), text(3, 62))
	write(t, d, a, 4, text(4, 62))
	wipe(t, d, b, 1, 3)
	expectScan(t, d, b, 1)
	expectSector(t, d, 6, framed(62, text(4, 62)))
	expectEpoch(t, d, a.from, 3)
	expectEpoch(t, d, b.from, 4)
	setEpoch(t, d, a.from, 0)
	expectEpoch(t, d, a.from, 0)
	expectEpoch(t, d, b.from, 4)
	expectSector(t, d, 1, mark(1))
	expectSector(t, d, 12, mark(12))
	expectSector(t, d, 0, noughts())
	expectSector(t, d, 13, noughts())
}
