package bank_test

import (
	"math"
	"strings"
	"testing"

	"toponym/api"
	"toponym/sector"
)

// P7.1: the sectors' bytes behind Write, number by number.
func TestWriteBytes(t *testing.T) {
	p := place{1, 6}
	d := around(t, p)
	if next := write(t, d, p, 1, strings.Repeat("x", 300)); next != 6 {
		t.Errorf("the next frame is %d; want 6", next)
	}
	for i, left := range []string{"\x01\x2c", "\x00\xee", "\x00\xb0", "\x00\x72", "\x00\x34"} {
		want := left + strings.Repeat("x", 62)
		if i == 4 {
			want = left + strings.Repeat("x", 52) + strings.Repeat("\x00", 10)
		}
		expectSector(t, d, 2+i, want)
	}
	expectScan(t, d, p, 6, strings.Repeat("x", 300))
}

// P7.1: records of all sizes about a frame's end, and about two bytes', at
// banks' first frames and further on.
func TestWrite(t *testing.T) {
	for _, n := range []int{1, 2, 60, 61, 62, 63, 64, 65, 123, 124, 125, 126, 186, 187, 255, 256, 257, 310, 311, 317, 318, 319, 511, 512, 513, 1000, 32767, 32768, 59953, 59954, 59955, api.MaxImage - 1, api.MaxImage} {
		record := text(n, n)
		for _, from := range []int{0, 1, 5} {
			for _, at := range []int{1, 2, 4} {
				p := place{from, at + len(frames(record)) + 2}
				d := around(t, p)
				write(t, d, p, at, record)
				stand := make([]string, at-1)
				for i := range stand {
					stand[i] = noughts()
				}
				expectFrames(t, d, p, append(stand, frames(record)...)...)
				if at == 1 {
					expectScan(t, d, p, 1+len(frames(record)), record)
				} else {
					expectScan(t, d, p, 1)
				}
			}
		}
	}
}

// P7.1: each byte is kept in its place, whatever it is; noughts that are a
// record's own stay its own.
func TestWriteAnyBytes(t *testing.T) {
	var all strings.Builder
	for b := range 256 {
		all.WriteByte(byte(b))
	}
	for _, record := range []string{
		all.String(),
		"\x00", "\x00\x00", "a\x00", "\x00a", "\x00a\x00",
		strings.Repeat("\x00", 61), strings.Repeat("\x00", 62), strings.Repeat("\x00", 63), strings.Repeat("\x00", 124), strings.Repeat("\x00", 125),
		strings.Repeat("\xff", 61), strings.Repeat("\xff", 62), strings.Repeat("\xff", 63), strings.Repeat("\xff", 125),
		text(1, 62) + "\x00", text(1, 61) + "\x00", strings.Repeat("\x00", 62) + "a", "\xc3\xa9\xed\xa0\x80",
	} {
		p := place{3, 9}
		d := around(t, p)
		next := write(t, d, p, 1, record)
		expectFrames(t, d, p, frames(record)...)
		expectScan(t, d, p, next, record)
		next = write(t, d, p, next, "b")
		expectScan(t, d, p, next, record, "b")
	}
}

// P7.1: the frames are written in order, the first one first.
func TestWriteOrder(t *testing.T) {
	p := place{2, 7}
	record := text(5, 4*62+1)
	for kept := range 5 {
		d := around(t, p)
		write(t, d, p, 2, record)
		d.Restart(kept)
		stand := []string{noughts(), noughts(), noughts(), noughts(), noughts(), noughts()}
		stand[1+kept] = frames(record)[kept]
		expectFrames(t, d, p, stand...)
	}
}

// P7.1: a record that fills the bank goes, one of a frame more doesn't.
func TestWriteFull(t *testing.T) {
	for size := 1; size <= 9; size++ {
		for at := 1; at <= size; at++ {
			p := place{2, size}
			d := around(t, p)
			for _, over := range []int{1, 2, 62, 63, 1000} {
				expectNoWrite(t, d, p, at, text(1, (size-at)*62+over), api.ErrFull)
				expectFrames(t, d, p)
			}
			if at == size {
				continue
			}
			for _, n := range []int{(size - at) * 62, (size-at-1)*62 + 1} {
				if next := write(t, d, p, at, text(n, n)); next != size {
					t.Errorf("behind %d bytes at %d of %d comes the frame %d", n, at, size, next)
				}
			}
		}
	}
}

// P7.1: the greatest bank has room for the greatest record four times.
func TestWriteGreatest(t *testing.T) {
	p := place{0, api.MaxSectors}
	d := sector.New(api.MaxSectors)
	next := 1
	var want []string
	for n := range 4 {
		want = append(want, text(n, api.MaxImage))
		next = write(t, d, p, next, want[n])
		if next != 1+968*(n+1) {
			t.Errorf("the next frame is %d", next)
		}
	}
	expectNoWrite(t, d, p, next, text(4, api.MaxImage), api.ErrFull)
	expectNoWrite(t, d, p, next, text(4, 223*62+1), api.ErrFull)
	want = append(want, text(4, 223*62))
	write(t, d, p, next, want[4])
	expectScan(t, d, p, api.MaxSectors, want...)
}

// P7.1: no frame is numbered below 1.
func TestWriteAtBelowOne(t *testing.T) {
	p := place{3, 6}
	d := around(t, p)
	for _, at := range []int{0, -1, -2, -3, -6, -100, math.MinInt32, -1 << 32, -1<<32 + 1, math.MinInt, math.MinInt + 1} {
		for _, n := range []int{1, 62, 63, 310, 311, api.MaxImage} {
			expectNoWrite(t, d, p, at, text(1, n), api.ErrArg)
		}
	}
	expectFrames(t, d, p)
}

// P7.1: the last frame has room for 62 bytes; behind it there is none.
func TestWriteLastFrame(t *testing.T) {
	p := place{3, 6}
	d := around(t, p)
	for _, at := range []int{6, 7, 8, 100, 968, math.MaxInt32, 1 << 32, 1<<32 + 1, math.MaxInt - 968, math.MaxInt - 1, math.MaxInt} {
		for _, n := range []int{1, 62, 63, api.MaxImage} {
			expectNoWrite(t, d, p, at, text(1, n), api.ErrFull)
		}
	}
	expectNoWrite(t, d, p, 5, text(1, 63), api.ErrFull)
	expectFrames(t, d, p)
	for _, n := range []int{1, 62} {
		write(t, d, p, 5, text(n, n))
		expectFrames(t, d, p, noughts(), noughts(), noughts(), noughts(), framed(n, text(n, n)))
	}
}

// P7.1: a bank of its head alone has no room.
func TestWriteNoFrames(t *testing.T) {
	p := place{1, 1}
	d := around(t, p)
	for _, at := range []int{1, 2, 3, 100} {
		expectNoWrite(t, d, p, at, "a", api.ErrFull)
	}
	expectFrames(t, d, p)
	expectScan(t, d, p, 1)
}

// P7.1: no record has no bytes, or more than MaxImage.
func TestWriteLong(t *testing.T) {
	p := place{1, 2000}
	d := around(t, p)
	for _, n := range []int{0, api.MaxImage + 1, api.MaxImage + 2, api.MaxImage + 62, 65535, 65536, 65537, 65536 + 100, 100000, 1 << 20} {
		expectNoWrite(t, d, p, 1, text(1, n), api.ErrLong)
		expectNoWrite(t, d, p, 1998, text(1, n), api.ErrLong)
	}
	expectFrames(t, d, p)
}

// P7.1: which error comes first, where several apply.
func TestWriteFirstError(t *testing.T) {
	none, small := place{6, 3}, place{2, 4}
	empty, long, wide := "", text(1, api.MaxImage+1), text(1, 1000)
	d := sector.New(8)
	for _, record := range []string{empty, "a", wide, long} {
		for _, at := range []int{-1, 0, 1, 2, 3, 4, 100} {
			expectNoWrite(t, d, none, at, record, api.ErrArg)
			expectNoWrite(t, d, place{2, 0}, at, record, api.ErrArg)
			expectNoWrite(t, d, place{-1, 4}, at, record, api.ErrArg)
		}
		for _, at := range []int{-1, 0} {
			expectNoWrite(t, d, small, at, record, api.ErrArg)
		}
	}
	for _, at := range []int{1, 3, 4, 5, 100, math.MaxInt} {
		expectNoWrite(t, d, small, at, empty, api.ErrLong)
		expectNoWrite(t, d, small, at, long, api.ErrLong)
		expectNoWrite(t, d, small, at, wide, api.ErrFull)
	}
	for _, at := range []int{4, 5, 100, math.MaxInt} {
		expectNoWrite(t, d, small, at, "a", api.ErrFull)
	}
	for i := range 8 {
		expectSector(t, d, i, noughts())
	}
}

// P7.1: record behind record, up to the bank's last frame.
func TestWriteSeveral(t *testing.T) {
	p := place{4, 12}
	d := around(t, p)
	sizes := []int{1, 62, 63, 124, 125, 7, 62}
	var records, stand []string
	next := 1
	for n, size := range sizes {
		expectScan(t, d, p, next, records...)
		records = append(records, text(n, size))
		stand = append(stand, frames(records[n])...)
		next = write(t, d, p, next, records[n])
		expectFrames(t, d, p, stand...)
	}
	expectScan(t, d, p, 12, records...)
	if next != 12 {
		t.Errorf("the next frame is %d", next)
	}
	expectNoWrite(t, d, p, next, "a", api.ErrFull)
	expectScan(t, d, p, 12, records...)
}

// P7.1: what is written in the midst takes the place of just its own frames.
func TestWriteInTheMidst(t *testing.T) {
	a, b, c := text(1, 62), text(2, 100), text(3, 5)
	x, y := text(8, 9), text(9, 150)
	last := framed(38, b[62:])
	for _, e := range []struct {
		at     int
		record string
		frames []string
		end    int
		want   []string
	}{
		{1, x, []string{framed(9, x), framed(100, b[:62]), last, framed(5, c)}, 5, []string{x, b, c}},
		{2, x, []string{framed(62, a), framed(9, x), last, framed(5, c)}, 5, []string{a, x, b[62:], c}},
		{3, x, []string{framed(62, a), framed(100, b[:62]), framed(9, x), framed(5, c)}, 2, []string{a}},
		{4, x, []string{framed(62, a), framed(100, b[:62]), last, framed(9, x)}, 5, []string{a, b, x}},
		{5, x, []string{framed(62, a), framed(100, b[:62]), last, framed(5, c), framed(9, x)}, 6, []string{a, b, c, x}},
		{6, x, []string{framed(62, a), framed(100, b[:62]), last, framed(5, c), noughts(), framed(9, x)}, 5, []string{a, b, c}},
		{1, y, []string{framed(150, y[:62]), framed(88, y[62:124]), framed(26, y[124:]), framed(5, c)}, 5, []string{y, c}},
		{2, y, []string{framed(62, a), framed(150, y[:62]), framed(88, y[62:124]), framed(26, y[124:])}, 5, []string{a, y}},
		{3, y, []string{framed(62, a), framed(100, b[:62]), framed(150, y[:62]), framed(88, y[62:124]), framed(26, y[124:])}, 2, []string{a}},
		{2, text(7, 124), []string{framed(62, a), framed(124, text(7, 124)[:62]), framed(62, text(7, 124)[62:]), framed(5, c)}, 5, []string{a, text(7, 124), c}},
	} {
		p := place{2, 9}
		d := with(t, p, framed(62, a), framed(100, b[:62]), last, framed(5, c))
		expectScan(t, d, p, 5, a, b, c)
		write(t, d, p, e.at, e.record)
		expectFrames(t, d, p, e.frames...)
		expectScan(t, d, p, e.end, e.want...)
	}
}
