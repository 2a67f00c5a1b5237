package bank_test

import (
	"slices"
	"strings"
	"testing"

	"toponym/api"
	"toponym/sector"
)

// P7.1: in a bank of noughts stands nothing, whatever its head is.
func TestScanWiped(t *testing.T) {
	for _, size := range []int{1, 2, 3, 9, 100} {
		p := place{3, size}
		d := around(t, p)
		expectScan(t, d, p, 1)
		put(t, d, p.from, framed(3, "abc"))
		expectScan(t, d, p, 1)
		put(t, d, p.from, noughts())
		expectScan(t, d, p, 1)
	}
	expectScan(t, sector.New(1), place{0, 1}, 1)
	expectScan(t, sector.New(api.MaxSectors), place{0, api.MaxSectors}, 1)
}

// P7.1: the end of a full bank is the frame behind its last one.
func TestScanFull(t *testing.T) {
	a, b, c := text(1, 62), text(2, 125), text(3, 1)
	p := place{2, 6}
	d := with(t, p, append(append(frames(a), frames(b)...), frames(c)...)...)
	expectScan(t, d, p, 6, a, b, c)
	for size := 1; size <= 6; size++ {
		d := sector.New(size)
		for i := 1; i < size; i++ {
			put(t, d, i, framed(i, text(i, i)))
		}
		var want []string
		for i := 1; i < size; i++ {
			want = append(want, text(i, i))
		}
		expectScan(t, d, place{0, size}, size, want...)
	}
}

// P7.1: a bank's record doesn't go beyond its last frame, though what it should
// have stands behind that.
func TestScanBeyond(t *testing.T) {
	record := text(1, 240)
	d := with(t, place{1, 7}, append(frames("ab"), frames(record)...)...)
	expectScan(t, d, place{1, 1}, 1)
	for size := 2; size <= 5; size++ {
		expectScan(t, d, place{1, size}, 2, "ab")
		expectScan(t, d, place{2, size - 1}, 1)
	}
	for size := 6; size <= 7; size++ {
		expectScan(t, d, place{1, size}, 6, "ab", record)
		expectScan(t, d, place{2, size - 1}, 5, record)
	}
}

// nearly is what stands instead of a record's three frames.
type nearly struct {
	name   string
	frames []string
}

func nearlyRight(b string) []nearly {
	one, two, three := framed(150, b[:62]), framed(88, b[62:124]), framed(26, b[124:])
	return []nearly{
		{"two bytes of 0", []string{framed(0, b[:62]), two, three}},
		{"noughts", []string{noughts(), two, three}},
		{"more than MaxImage", []string{framed(api.MaxImage+1, b[:62]), two, three}},
		{"far more than MaxImage", []string{framed(65535, b[:62]), two, three}},
		{"as many as MaxImage", []string{framed(api.MaxImage, b[:62]), two, three}},
		{"one too few in the first frame", []string{framed(149, b[:62]), two, three}},
		{"one too many in the first frame", []string{framed(151, b[:62]), two, three}},
		{"one too few in the second frame", []string{one, framed(87, b[62:124]), three}},
		{"one too many in the second frame", []string{one, framed(89, b[62:124]), three}},
		{"256 too many in the second frame", []string{one, framed(88+256, b[62:124]), three}},
		{"one too few in the last frame", []string{one, two, framed(25, b[124:])}},
		{"one too many in the last frame", []string{one, two, framed(27, b[124:])}},
		{"256 too many in the last frame", []string{one, two, framed(26+256, b[124:])}},
		{"as many in the second frame as in the first", []string{one, framed(150, b[62:124]), three}},
		{"as many in the last frame as in the second", []string{one, two, framed(88, b[124:])}},
		{"none left in the second frame", []string{one, framed(0, b[62:124]), three}},
		{"none left in the last frame", []string{one, two, framed(0, b[124:])}},
		{"no second frame", []string{one, noughts(), three}},
		{"no last frame", []string{one, two, noughts()}},
		{"the last two frames changed about", []string{one, three, two}},
		{"a byte behind the last one's", []string{one, two, framed(26, b[124:]+"x")}},
		{"a byte that is 1 behind the last one's", []string{one, two, framed(26, b[124:]+"\x01")}},
		{"a byte in the last frame's midst", []string{one, two, framed(26, b[124:]+strings.Repeat("\x00", 18)+"x")}},
		{"a byte at the last frame's end", []string{one, two, framed(26, b[124:]+strings.Repeat("\x00", 35)+"x")}},
		{"a byte of 255 at the last frame's end", []string{one, two, framed(26, b[124:]+strings.Repeat("\x00", 35)+"\xff")}},
	}
}

// P7.1: where a record is but nearly right none stands, and what stands behind
// it isn't told.
func TestScanNearlyRight(t *testing.T) {
	a, b, c := text(1, 10), text(2, 150), text(3, 20)
	p := place{2, 1100}
	d := with(t, p, append(append(frames(a), frames(b)...), frames(c)...)...)
	expectScan(t, d, p, 6, a, b, c)
	for _, n := range nearlyRight(b) {
		t.Run(n.name, func(t *testing.T) {
			stand := append(slices.Clone(n.frames), frames(c)...)
			expectScan(t, with(t, p, stand...), p, 1)
			expectScan(t, with(t, p, append(frames(a), stand...)...), p, 2, a)
		})
	}
}

// P7.1: of a record of one frame just the bytes that aren't its own must be
// noughts.
func TestScanNoughts(t *testing.T) {
	p := place{0, 4}
	for _, n := range []int{1, 2, 30, 61, 62} {
		for at := range 62 {
			b := []byte(framed(n, text(1, n)))
			b[2+at] ^= 0x40
			d := with(t, p, string(b), framed(1, "z"))
			if at >= n {
				expectScan(t, d, p, 1)
			} else {
				expectScan(t, d, p, 3, string(b[2:2+n]), "z")
			}
		}
	}
}

// P7.1: the two bytes go up to MaxImage.
func TestScanGreatest(t *testing.T) {
	p := place{1, 1000}
	most := text(1, api.MaxImage)
	d := with(t, p, append(frames(most), framed(1, "z"))...)
	expectScan(t, d, p, 970, most, "z")
	for _, n := range []int{api.MaxImage + 1, api.MaxImage + 2, 60015, 60016, 61999} {
		d := with(t, p, append(frames(text(1, n)), framed(1, "z"))...)
		expectScan(t, d, p, 1)
	}
}

// P7.1: which half of the two bytes is the greater one.
func TestScanHalves(t *testing.T) {
	p := place{0, 10}
	record := strings.Repeat("x", 256)
	one := "\x01\x00" + strings.Repeat("x", 62)
	d := with(t, p, append([]string{one}, frames(record)[1:]...)...)
	expectScan(t, d, p, 6, record)
	d = with(t, p, "\x00\x01x"+strings.Repeat("\x00", 61))
	expectScan(t, d, p, 2, "x")
	d = with(t, p, "\x01\x00x"+strings.Repeat("\x00", 61))
	expectScan(t, d, p, 1)
}

// R5: what was told stays, whatever is written behind that.
func TestScanNewMemory(t *testing.T) {
	p := place{0, 5}
	d := with(t, p, framed(1, "a"), framed(1, "b"))
	expectScan(t, d, p, 3, "a", "b")
	expectScan(t, d, p, 3, "a", "b")
	write(t, d, p, 1, "c")
	expectScan(t, d, p, 3, "c", "b")
}
