package charset_test

import (
	"math"
	"slices"
	"testing"
	"unicode/utf8"

	"toponym/api"
	"toponym/charset"
)

func noEncodings() []int {
	return []int{-1, 9, 10, -9, 255, 256, 263, math.MinInt, math.MaxInt, math.MinInt32, math.MaxInt32, 1 << 32}
}

// bad is the piece of a byte that is no character's.
func bad() charset.Piece {
	return charset.Piece{Rune: -1, Size: 1}
}

func one(r rune) charset.Piece {
	return charset.Piece{Rune: r, Size: 1}
}

func two(r rune) charset.Piece {
	return charset.Piece{Rune: r, Size: 2}
}

// wanted is the chapter's rule of pieces: of a table's encoding the character
// of two bytes, else of one, else a bad piece.
func wanted(enc int, characters map[string]rune, b string) charset.Piece {
	if isUTF(enc) {
		r, size := utf8.DecodeRuneInString(b)
		if r == utf8.RuneError && size < 3 {
			return bad()
		}
		return charset.Piece{Rune: r, Size: size}
	}
	for size := min(2, len(b)); size > 0; size-- {
		if r, ok := characters[b[:size]]; ok {
			return charset.Piece{Rune: r, Size: size}
		}
	}
	return bad()
}

func wantedPieces(enc int, characters map[string]rune, b string) []charset.Piece {
	var l []charset.Piece
	for at := 0; at < len(b); at += l[len(l)-1].Size {
		l = append(l, wanted(enc, characters, b[at:]))
	}
	return l
}

func expectNext(t *testing.T, enc int, b string, at int, want charset.Piece) {
	t.Helper()
	if got := charset.Next(enc, b, at); got != want {
		t.Errorf("Next(%d, % x, %d) = %x; want %x", enc, b, at, got, want)
	}
}

func expectPieces(t *testing.T, enc int, b string, want ...charset.Piece) {
	t.Helper()
	if got := charset.Pieces(enc, b); !slices.Equal(got, want) {
		t.Errorf("Pieces(%d, % x) = %x; want %x", enc, b, got, want)
	}
}

// expectEncode wants just these bytes, or, of "", that there are none.
func expectEncode(t *testing.T, enc int, r rune, want string) {
	t.Helper()
	if got, ok := charset.Encode(enc, r); got != want || ok != (want != "") {
		t.Errorf("Encode(%d, %x) = % x, %v; want % x", enc, r, got, ok, want)
	}
}

// P2.1: Right of the nine, and of numbers beside them.
func TestRight(t *testing.T) {
	for _, enc := range allEncodings() {
		if !charset.Right(enc) {
			t.Errorf("Right(%d) = false", enc)
		}
	}
	for _, enc := range noEncodings() {
		if charset.Right(enc) {
			t.Errorf("Right(%d) = true", enc)
		}
	}
}

// P2.1: whatever is asked of what is no encoding, there is nothing.
func TestNoEncoding(t *testing.T) {
	for _, enc := range noEncodings() {
		for _, b := range []string{"", "a", "\x00", "caf\xc3\xa9", "\x83\x41", "\xff"} {
			expectPieces(t, enc, b)
			for at := -1; at <= len(b); at++ {
				expectNext(t, enc, b, at, charset.Piece{})
			}
		}
		for _, r := range []rune{-1, 0, 'a', 0xe9, 0x30a2, 0x10ffff} {
			expectEncode(t, enc, r, "")
		}
	}
}

// P2.1: the chapter's examples, and those of DOC.md.
func TestExamples(t *testing.T) {
	expectNext(t, api.Kana, "\x83\x41", 0, two(0x30a2))
	expectEncode(t, api.Kana, 0x30a2, "\x83\x41")
	expectNext(t, api.CP437, "\xe9", 0, one(0x398))
	expectEncode(t, api.CP437, 0x398, "\xe9")
	expectPieces(t, api.Latin1, "\x63\x61\x66\xe9", one('c'), one('a'), one('f'), one(0xe9))
	expectEncode(t, api.Latin1, 0x20ac, "")
}

// P2.1: each byte of each encoding, alone, and ahead of and behind others
// that don't go on from it.
func TestEachByte(t *testing.T) {
	for _, enc := range allEncodings() {
		characters := table(enc)
		for i := range 256 {
			b := string([]byte{byte(i)})
			want := wanted(enc, characters, b)
			expectNext(t, enc, b, 0, want)
			expectPieces(t, enc, b, want)
			expectPieces(t, enc, b+" ", want, one(' '))
			expectPieces(t, enc, " "+b, one(' '), want)
		}
	}
}

// P2.1: each two bytes of each encoding.
func TestEachTwoBytes(t *testing.T) {
	for _, enc := range allEncodings() {
		characters := table(enc)
		for i := range 1 << 16 {
			b := string([]byte{byte(i >> 8), byte(i)})
			expectNext(t, enc, b, 0, wanted(enc, characters, b))
			expectNext(t, enc, b, 1, wanted(enc, characters, b[1:]))
			expectPieces(t, enc, b, wantedPieces(enc, characters, b)...)
			if t.Failed() {
				return
			}
		}
	}
}

// P2.1, P2.2: each character of each encoding is encoded as its bytes, and is
// read from them; each other number has none.
func TestEachCharacter(t *testing.T) {
	for _, enc := range allEncodings() {
		characters := table(enc)
		bytes := backward(characters)
		if len(bytes) != len(characters) {
			t.Fatalf("in %d a character has two rows of bytes", enc)
		}
		for r := rune(-0x300); r <= 0x111000; r++ {
			if r > 0x11000 && !isUTF(enc) {
				r += 0x2f
			}
			want := bytesIn(enc, bytes, r)
			expectEncode(t, enc, r, want)
			if want != "" {
				expectNext(t, enc, want, 0, charset.Piece{Rune: r, Size: len(want)})
			}
			if t.Failed() {
				return
			}
		}
		expectEncode(t, enc, math.MinInt32, "")
		expectEncode(t, enc, math.MaxInt32, "")
	}
}

// P2.1: each encoding's least and greatest bytes and characters, and those
// beside them, told one by one.
func TestEdgesOfBytes(t *testing.T) {
	for _, c := range []struct {
		enc  int
		b    string
		want charset.Piece
	}{
		{api.ASCII, "\x00", one(0)},
		{api.ASCII, "\x7f", one(0x7f)},
		{api.ASCII, "\x80", bad()},
		{api.ASCII, "\xff", bad()},
		{api.Latin1, "\x00", one(0)},
		{api.Latin1, "\x80", one(0x80)},
		{api.Latin1, "\xff", one(0xff)},
		{api.Latin2, "\x9f", one(0x9f)},
		{api.Latin2, "\xa0", one(0xa0)},
		{api.Latin2, "\xa1", one(0x104)},
		{api.Latin2, "\xad", one(0xad)},
		{api.Latin2, "\xff", one(0x2d9)},
		{api.Latin9, "\x9f", one(0x9f)},
		{api.Latin9, "\xa3", one(0xa3)},
		{api.Latin9, "\xa4", one(0x20ac)},
		{api.Latin9, "\xa5", one(0xa5)},
		{api.Latin9, "\xbe", one(0x178)},
		{api.Latin9, "\xff", one(0xff)},
		{api.CP437, "\x7f", one(0x7f)},
		{api.CP437, "\x80", one(0xc7)},
		{api.CP437, "\xfe", one(0x25a0)},
		{api.CP437, "\xff", one(0xa0)},
		{api.CP850, "\x7f", one(0x7f)},
		{api.CP850, "\x80", one(0xc7)},
		{api.CP850, "\xd5", one(0x131)},
		{api.CP850, "\xf0", one(0xad)},
		{api.CP850, "\xff", one(0xa0)},
		{api.Kana, "\x7f", one(0x7f)},
		{api.Kana, "\x5c", one('\\')},
		{api.Kana, "\x7e", one('~')},
		{api.Kana, "\x80", bad()},
		{api.Kana, "\xa0", bad()},
		{api.Kana, "\xa1", one(0xff61)},
		{api.Kana, "\xdf", one(0xff9f)},
		{api.Kana, "\xe0", bad()},
		{api.Kana, "\xff", bad()},
		{api.Kana, "\x81\x40", bad()},
		{api.Kana, "\x82\x4e", bad()},
		{api.Kana, "\x82\x4f", two(0xff10)},
		{api.Kana, "\x82\x58", two(0xff19)},
		{api.Kana, "\x82\x59", bad()},
		{api.Kana, "\x82\x5f", bad()},
		{api.Kana, "\x82\x60", two(0xff21)},
		{api.Kana, "\x82\x79", two(0xff3a)},
		{api.Kana, "\x82\x7a", bad()},
		{api.Kana, "\x82\x80", bad()},
		{api.Kana, "\x82\x81", two(0xff41)},
		{api.Kana, "\x82\x9a", two(0xff5a)},
		{api.Kana, "\x82\x9b", bad()},
		{api.Kana, "\x82\x9e", bad()},
		{api.Kana, "\x82\x9f", two(0x3041)},
		{api.Kana, "\x82\xf1", two(0x3093)},
		{api.Kana, "\x82\xf2", bad()},
		{api.Kana, "\x83\x3f", bad()},
		{api.Kana, "\x83\x40", two(0x30a1)},
		{api.Kana, "\x83\x7e", two(0x30df)},
		{api.Kana, "\x83\x7f", bad()},
		{api.Kana, "\x83\x80", two(0x30e0)},
		{api.Kana, "\x83\x96", two(0x30f6)},
		{api.Kana, "\x83\x97", bad()},
		{api.Kana, "\x83\x9e", bad()},
		{api.Kana, "\x83\x9f", two(0x391)},
		{api.Kana, "\x83\xaf", two(0x3a1)},
		{api.Kana, "\x83\xb0", two(0x3a3)},
		{api.Kana, "\x83\xb6", two(0x3a9)},
		{api.Kana, "\x83\xb7", bad()},
		{api.Kana, "\x83\xbe", bad()},
		{api.Kana, "\x83\xbf", two(0x3b1)},
		{api.Kana, "\x83\xcf", two(0x3c1)},
		{api.Kana, "\x83\xd0", two(0x3c3)},
		{api.Kana, "\x83\xd6", two(0x3c9)},
		{api.Kana, "\x83\xd7", bad()},
		{api.Kana, "\x84\x3f", bad()},
		{api.Kana, "\x84\x40", two(0x410)},
		{api.Kana, "\x84\x45", two(0x415)},
		{api.Kana, "\x84\x46", two(0x401)},
		{api.Kana, "\x84\x47", two(0x416)},
		{api.Kana, "\x84\x60", two(0x42f)},
		{api.Kana, "\x84\x61", bad()},
		{api.Kana, "\x84\x6f", bad()},
		{api.Kana, "\x84\x70", two(0x430)},
		{api.Kana, "\x84\x76", two(0x451)},
		{api.Kana, "\x84\x7e", two(0x43d)},
		{api.Kana, "\x84\x7f", bad()},
		{api.Kana, "\x84\x80", two(0x43e)},
		{api.Kana, "\x84\x91", two(0x44f)},
		{api.Kana, "\x84\x92", bad()},
		{api.Kana, "\x85\x40", bad()},
		{api.UTF8, "\x7f", one(0x7f)},
		{api.UTF8, "\x80", bad()},
		{api.UTF8, "\xc2\x80", two(0x80)},
		{api.UTF8, "\xc1\xbf", bad()},
		{api.UTF8, "\xed\x9f\xbf", charset.Piece{Rune: 0xd7ff, Size: 3}},
		{api.UTF8, "\xed\xa0\x80", bad()},
		{api.UTF8, "\xef\xbf\xbd", charset.Piece{Rune: 0xfffd, Size: 3}},
		{api.HFS, "\xee\x80\x80", charset.Piece{Rune: 0xe000, Size: 3}},
		{api.HFS, "\xf4\x8f\xbf\xbf", charset.Piece{Rune: 0x10ffff, Size: 4}},
		{api.HFS, "\xf4\x90\x80\x80", bad()},
		{api.HFS, "\xff", bad()},
	} {
		expectNext(t, c.enc, c.b, 0, c.want)
		if c.want.Rune >= 0 {
			expectEncode(t, c.enc, c.want.Rune, c.b)
		}
	}
}

// P2.1: characters that an encoding has not, though one beside it has them,
// or the row's numbers go over them.
func TestCharactersWithoutBytes(t *testing.T) {
	for _, c := range []struct {
		enc int
		r   rune
	}{
		{api.ASCII, -1}, {api.ASCII, 0x80}, {api.ASCII, 0xff}, {api.ASCII, 0x100}, {api.ASCII, 0x161},
		{api.Latin1, -1}, {api.Latin1, 0x100}, {api.Latin1, 0x161}, {api.Latin1, 0x20ac}, {api.Latin1, 0x10041},
		{api.Latin2, 0xa1}, {api.Latin2, 0xff}, {api.Latin2, 0x101}, {api.Latin2, 0x20ac},
		{api.Latin9, 0xa4}, {api.Latin9, 0xa6}, {api.Latin9, 0xa8}, {api.Latin9, 0xb4},
		{api.Latin9, 0xb8}, {api.Latin9, 0xbc}, {api.Latin9, 0xbd}, {api.Latin9, 0xbe}, {api.Latin9, 0x100},
		{api.CP437, 0x80}, {api.CP437, 0xad}, {api.CP437, 0xd7}, {api.CP437, 0x3bc}, {api.CP437, 0x3b2}, {api.CP437, 0x2126},
		{api.CP850, 0x80}, {api.CP850, 0x3b1}, {api.CP850, 0x20ac}, {api.CP850, 0x2561},
		{api.Kana, 0x80}, {api.Kana, 0xa5}, {api.Kana, 0x203e}, {api.Kana, 0x3a2}, {api.Kana, 0x3c2},
		{api.Kana, 0x390}, {api.Kana, 0x3aa}, {api.Kana, 0x3b0}, {api.Kana, 0x3ca},
		{api.Kana, 0x400}, {api.Kana, 0x402}, {api.Kana, 0x40f}, {api.Kana, 0x450}, {api.Kana, 0x452},
		{api.Kana, 0x3040}, {api.Kana, 0x3094}, {api.Kana, 0x30a0}, {api.Kana, 0x30f7},
		{api.Kana, 0xff0e}, {api.Kana, 0xff0f}, {api.Kana, 0xff1a}, {api.Kana, 0xff20}, {api.Kana, 0xff3b},
		{api.Kana, 0xff40}, {api.Kana, 0xff5b}, {api.Kana, 0xff60}, {api.Kana, 0xffa0}, {api.Kana, -1},
		{api.UTF8, -1}, {api.UTF8, 0xd800}, {api.UTF8, 0xdfff}, {api.UTF8, 0x110000},
		{api.HFS, -1}, {api.HFS, 0xd800}, {api.HFS, 0xdfff}, {api.HFS, 0x110000},
	} {
		expectEncode(t, c.enc, c.r, "")
	}
}

// P2.1: the point has its one byte in each encoding, and none beside it.
func TestPoint(t *testing.T) {
	for _, enc := range allEncodings() {
		expectEncode(t, enc, '.', ".")
		expectNext(t, enc, ".", 0, one('.'))
	}
}

// P2.1: places ahead of the bytes, at each of them, and behind them.
func TestPlaces(t *testing.T) {
	const kana = "a\x83\x41\xb1\x80"
	for at, want := range []charset.Piece{one('a'), two(0x30a2), one('A'), one(0xff71), bad()} {
		expectNext(t, api.Kana, kana, at, want)
	}
	const text = "a\xc3\xa9\xff"
	for at, want := range []charset.Piece{one('a'), two(0xe9), bad(), bad()} {
		expectNext(t, api.UTF8, text, at, want)
		expectNext(t, api.HFS, text, at, want)
	}
	for _, enc := range allEncodings() {
		for _, b := range []string{"", "a", kana, text} {
			for _, at := range []int{-1, -2, math.MinInt, len(b), len(b) + 1, math.MaxInt, math.MinInt32, math.MaxInt32} {
				expectNext(t, enc, b, at, charset.Piece{})
			}
		}
		expectPieces(t, enc, "")
	}
}

// P2.1: bytes that are cut off at the end are bad, one by one.
func TestCutOff(t *testing.T) {
	for _, lead := range []string{"\x82", "\x83", "\x84"} {
		expectPieces(t, api.Kana, lead, bad())
		expectPieces(t, api.Kana, "a"+lead, one('a'), bad())
		expectPieces(t, api.Kana, "\x83\x41"+lead, two(0x30a2), bad())
	}
	for _, enc := range []int{api.UTF8, api.HFS} {
		expectPieces(t, enc, "a\xc3", one('a'), bad())
		expectPieces(t, enc, "\xe3\x81", bad(), bad())
		expectPieces(t, enc, "\xc3\xa9\xf0\x9f\x8c", two(0xe9), bad(), bad(), bad())
	}
}

// P2.1: bad pieces are of one byte each, and what stands behind them is read
// from the next byte on.
func TestBadPieces(t *testing.T) {
	expectPieces(t, api.ASCII, "\x80a\xff\xfe", bad(), one('a'), bad(), bad())
	expectPieces(t, api.Kana, "\x82\x40", bad(), one('@'))
	expectPieces(t, api.Kana, "\x82\x82\x60", two(0xff42), one('`'))
	expectPieces(t, api.Kana, "\x82\x83\x41", two(0xff43), one('A'))
	expectPieces(t, api.Kana, "\x84\x83\x41", two(0x441), one('A'))
	expectPieces(t, api.Kana, "\x83\x97\x83\x41", bad(), bad(), two(0x30a2))
	expectPieces(t, api.Kana, "\x81\x83\x41", bad(), two(0x30a2))
	expectPieces(t, api.Kana, "\x83\xb7", bad(), one(0xff77))
	expectPieces(t, api.Kana, "\x80\xa0\xfd\x88\x9f", bad(), bad(), bad(), bad(), bad())
	for _, enc := range []int{api.UTF8, api.HFS} {
		expectPieces(t, enc, "\xc0\x80", bad(), bad())
		expectPieces(t, enc, "\xc3\xc3\xa9", bad(), two(0xe9))
		expectPieces(t, enc, "\xe3\x81a", bad(), bad(), one('a'))
		expectPieces(t, enc, "\xed\xa0\x80\xef\xbf\xbd", bad(), bad(), bad(), charset.Piece{Rune: 0xfffd, Size: 3})
	}
}

// P2.1: on a disk of HFS characters are layer 1's, put together or not.
func TestHFSAsUTF8(t *testing.T) {
	const text = "e\xcc\x81\xc3\xa9"
	for _, enc := range []int{api.UTF8, api.HFS} {
		expectPieces(t, enc, text, one('e'), two(0x301), two(0xe9))
		expectEncode(t, enc, 0xe9, "\xc3\xa9")
		expectEncode(t, enc, 0x301, "\xcc\x81")
	}
}

// P2.1, P2.2: long rows of whatever bytes are cut into the chapter's pieces,
// each is the one at its place, and those that aren't bad are encoded as they
// were.
func TestPiecesOfWhateverBytes(t *testing.T) {
	for _, enc := range allEncodings() {
		characters := table(enc)
		for seed := range uint32(200) {
			b := whatever(seed, 300)
			got := charset.Pieces(enc, b)
			if !slices.Equal(got, wantedPieces(enc, characters, b)) {
				t.Fatalf("Pieces(%d, % x) = %x", enc, b, got)
			}
			checkPieces(t, enc, b, got)
		}
	}
}

func checkPieces(t *testing.T, enc int, b string, l []charset.Piece) {
	t.Helper()
	at := 0
	for _, p := range l {
		expectNext(t, enc, b, at, p)
		if p.Rune >= 0 {
			expectEncode(t, enc, p.Rune, b[at:at+p.Size])
		}
		at += p.Size
	}
	if at != len(b) {
		t.Fatalf("the pieces of % x in %d have %d bytes", b, enc, at)
	}
}

// whatever makes bytes by a rule of its own, half of them of the kinds that
// begin characters of several bytes.
func whatever(seed uint32, n int) string {
	const leads = "\x82\x83\x84\x81\xc3\xa9\xe3\x81\x82\xf0\x9f\x8c\x9f\x41"
	state := seed*2654435761 + 1
	b := make([]byte, n)
	for i := range b {
		state = state*1664525 + 1013904223
		b[i] = byte(state >> 24)
		if state>>16&1 == 0 {
			b[i] = leads[int(state>>20)%len(leads)]
		}
	}
	return string(b)
}

// R5: what Pieces answers is new each time.
func TestPiecesAreNew(t *testing.T) {
	for _, enc := range allEncodings() {
		first := charset.Pieces(enc, "ab")
		second := charset.Pieces(enc, "ab")
		first[0], first[1] = bad(), bad()
		if !slices.Equal(second, []charset.Piece{one('a'), one('b')}) {
			t.Errorf("in %d a second list hangs on the first: %x", enc, second)
		}
	}
}
