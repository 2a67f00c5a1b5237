package utf_test

import (
	"math"
	"slices"
	"testing"

	"toponym/utf"
)

// edge is a number beside which the rule changes, and its bytes ("": it is no
// character).
type edge struct {
	number rune
	bytes  string
}

func edges() []edge {
	return []edge{
		{math.MinInt32, ""},
		{-0xd800, ""},
		{-1, ""},
		{0, "\x00"},
		{'a', "\x61"},
		{0x7f, "\x7f"},
		{0x80, "\xc2\x80"},
		{0xe9, "\xc3\xa9"},
		{0x7ff, "\xdf\xbf"},
		{0x800, "\xe0\xa0\x80"},
		{0x3042, "\xe3\x81\x82"},
		{0xd7ff, "\xed\x9f\xbf"},
		{0xd800, ""},
		{0xdc00, ""},
		{0xdfff, ""},
		{0xe000, "\xee\x80\x80"},
		{0xfeff, "\xef\xbb\xbf"},
		{0xfffd, "\xef\xbf\xbd"},
		{0xfffe, "\xef\xbf\xbe"},
		{0xffff, "\xef\xbf\xbf"},
		{0x10000, "\xf0\x90\x80\x80"},
		{0x1f31f, "\xf0\x9f\x8c\x9f"},
		{0x10ffff, "\xf4\x8f\xbf\xbf"},
		{0x110000, ""},
		{0x1fffff, ""},
		{math.MaxInt32, ""},
	}
}

// noCharacters are bytes of which none's stand at the first place, each with
// whatever follows.
func noCharacters() []string {
	return []string{
		// Bytes that go on, with nothing to go on from.
		"\x80", "\xbf", "\x80\x80", "\xbf\x61", "\xa9\xc3",
		// Cut off, by the end or by a byte that doesn't go on.
		"\xc2", "\xdf", "\xe0", "\xe0\xa0", "\xe3\x81", "\xef\xbf", "\xf0", "\xf0\x90", "\xf0\x90\x80", "\xf4\x8f\xbf",
		"\xc3\x61", "\xc3\xc3\xa9", "\xc2\x7f", "\xc2\xc0", "\xe3\x61\x82", "\xe3\x81\x61", "\xe3\x81\xc0", "\xe3\xc3\xa9",
		"\xf0\x61\x80\x80", "\xf0\x90\x61\x80", "\xf0\x90\x80\x61", "\xf0\x90\x80\xc0", "\xf0\x90\xc2\x80",
		// Too long for their character.
		"\xc0\x80", "\xc0\xaf", "\xc1\x81", "\xc1\xbf", "\xe0\x80\x80", "\xe0\x81\xbf", "\xe0\x9f\xbf",
		"\xf0\x80\x80\x80", "\xf0\x82\x82\xac", "\xf0\x8f\xbf\xbf", "\xf8\x88\x80\x80\x80", "\xfc\x84\x80\x80\x80\x80",
		// Of a number that is no character.
		"\xed\xa0\x80", "\xed\xaf\xbf", "\xed\xb0\x80", "\xed\xbf\xbf", "\xed\xa0\xbc\xed\xbc\x9f",
		"\xf4\x90\x80\x80", "\xf4\xbf\xbf\xbf", "\xf5\x80\x80\x80", "\xf7\xbf\xbf\xbf",
		// No character has such a byte at all.
		"\xc0", "\xc1", "\xf5", "\xf8", "\xfc", "\xfe", "\xff", "\xff\xfe", "\xfe\xff",
	}
}

// isOne says the chapter's bounds over again, by hand.
func isOne(r rune) bool {
	return r >= 0 && r < 0xd800 || r > 0xdfff && r <= 0x10ffff
}

// laidOut is the chapter's rule of a character's bytes, bit by bit, by means
// other than the package's.
func laidOut(r rune) string {
	low := func(shift int) byte { return 0b10000000 | byte(r>>shift)&0b111111 }
	switch {
	case r <= 0x7f:
		return string([]byte{byte(r)})
	case r <= 0x7ff:
		return string([]byte{0b11000000 | byte(r>>6), low(0)})
	case r <= 0xffff:
		return string([]byte{0b11100000 | byte(r>>12), low(6), low(0)})
	}
	return string([]byte{0b11110000 | byte(r>>18), low(12), low(6), low(0)})
}

// charactersByBytes holds each character by its bytes.
func charactersByBytes() map[string]rune {
	byBytes := make(map[string]rune, 0x110000)
	for r := rune(0); r <= 0x10ffff; r++ {
		if isOne(r) {
			byBytes[laidOut(r)] = r
		}
	}
	return byBytes
}

func expectNext(t *testing.T, b string, at int, want rune, wide int) {
	t.Helper()
	if r, n := utf.Next(b, at); r != want || n != wide {
		t.Errorf("Next(% x, %d) = %x, %d; want %x, %d", b, at, r, n, want, wide)
	}
}

func expectAll(t *testing.T, b string, want []rune) {
	t.Helper()
	if l, ok := utf.All(b); !ok || !slices.Equal(l, want) {
		t.Errorf("All(% x) = %x, %v; want %x, true", b, l, ok, want)
	}
}

func expectNotAll(t *testing.T, b string) {
	t.Helper()
	if l, ok := utf.All(b); ok || len(l) != 0 {
		t.Errorf("All(% x) = %x, %v; want none, false", b, l, ok)
	}
}

// P1.1: Is and Bytes, at the edges.
func TestEdges(t *testing.T) {
	for _, e := range edges() {
		if got := utf.Is(e.number); got != (e.bytes != "") {
			t.Errorf("Is(%x) = %v", e.number, got)
		}
		if got := utf.Bytes(e.number); got != e.bytes {
			t.Errorf("Bytes(%x) = % x, want % x", e.number, got, e.bytes)
		}
	}
}

// P1.1, P1.2: each character has the chapter's bytes, and is read from them
// whatever stands behind; and no beginning of them is a character's.
func TestEveryCharacter(t *testing.T) {
	for r := rune(-0x1000); r <= 0x111000; r++ {
		if utf.Is(r) != isOne(r) {
			t.Fatalf("Is(%x) = %v", r, !isOne(r))
		}
		b := utf.Bytes(r)
		if !isOne(r) {
			if b != "" {
				t.Fatalf("Bytes(%x) = % x of no character", r, b)
			}
			continue
		}
		if b != laidOut(r) {
			t.Fatalf("Bytes(%x) = % x, want % x", r, b, laidOut(r))
		}
		for _, behind := range []string{"", "a", "\x80", "\xff"} {
			if got, n := utf.Next(b+behind, 0); got != r || n != len(b) {
				t.Fatalf("Next(% x, 0) = %x, %d; want %x, %d", b+behind, got, n, r, len(b))
			}
		}
		for cut := range len(b) {
			if got, n := utf.Next(b[:cut], 0); got != 0 || n != 0 {
				t.Fatalf("Next(% x, 0) = %x, %d, of the beginning of %x", b[:cut], got, n, r)
			}
		}
	}
}

// P1.1, P1.2: of whatever bytes Next reads just the character that begins
// them, and never one of bytes that aren't the chapter's.
func TestNextOfWhateverBytes(t *testing.T) {
	byBytes := charactersByBytes()
	behind := []byte{0x00, 0x7f, 0x80, 0x8f, 0x90, 0xbf, 0xc0, 0xff}
	for first := range 256 {
		for second := range 256 {
			for _, third := range behind {
				for _, fourth := range behind {
					b := string([]byte{byte(first), byte(second), third, fourth})
					want, wide := begins(byBytes, b)
					if r, n := utf.Next(b, 0); r != want || n != wide {
						t.Fatalf("Next(% x, 0) = %x, %d; want %x, %d", b, r, n, want, wide)
					}
				}
			}
		}
	}
}

func begins(byBytes map[string]rune, b string) (rune, int) {
	for n := range len(b) {
		if r, ok := byBytes[b[:n+1]]; ok {
			return r, n + 1
		}
	}
	return 0, 0
}

// P1.1: Next at places ahead of the bytes, in them, and behind them.
func TestNextAtPlaces(t *testing.T) {
	const b = "a\xc3\xa9\x00\xe3\x81\x82\xf0\x9f\x8c\x9f"
	starts := map[int]rune{0: 'a', 1: 0xe9, 3: 0, 4: 0x3042, 7: 0x1f31f}
	for at := -3; at <= len(b)+3; at++ {
		want, wide := rune(0), 0
		if r, ok := starts[at]; ok {
			want, wide = r, len(laidOut(r))
		}
		expectNext(t, b, at, want, wide)
	}
	for _, at := range []int{math.MinInt, math.MaxInt, math.MinInt32, math.MaxInt32} {
		expectNext(t, b, at, 0, 0)
	}
	for at := -1; at <= 1; at++ {
		expectNext(t, "", at, 0, 0)
	}
}

// P1.1: Next of the characters that could be taken for a word of none.
func TestNextOfNoughtAndOfReplacement(t *testing.T) {
	expectNext(t, "\x00", 0, 0, 1)
	expectNext(t, "\xef\xbf\xbd", 0, 0xfffd, 3)
	expectNext(t, "\xff\xef\xbf\xbd", 0, 0, 0)
	expectNext(t, "\xff\xef\xbf\xbd", 1, 0xfffd, 3)
}

// P1.1: Next and All of bytes that are no character's, with and without
// others around them.
func TestNoCharacters(t *testing.T) {
	for _, b := range noCharacters() {
		expectNext(t, b, 0, 0, 0)
		expectNext(t, "a\xc3\xa9"+b, 3, 0, 0)
		expectNext(t, b+"a", 0, 0, 0)
		expectNotAll(t, b)
		expectNotAll(t, "a\xc3\xa9"+b)
		expectNotAll(t, b+"a\xc3\xa9")
		expectNotAll(t, "\xe3\x81\x82"+b+"\xf0\x9f\x8c\x9f")
	}
}

// P1.1: All of characters' bytes.
func TestAll(t *testing.T) {
	expectAll(t, "", nil)
	expectAll(t, "\x00", []rune{0})
	expectAll(t, "caf\xc3\xa9", []rune{'c', 'a', 'f', 0xe9})
	expectAll(t, "cafe\xcc\x81", []rune{'c', 'a', 'f', 'e', 0x301})
	expectAll(t, "\xef\xbf\xbd\xef\xbf\xbd", []rune{0xfffd, 0xfffd})
	whole, want := "", []rune{}
	for _, e := range edges() {
		if e.bytes != "" {
			expectAll(t, e.bytes, []rune{e.number})
			whole += e.bytes
			want = append(want, e.number)
		}
	}
	expectAll(t, whole, want)
}

// R5: what All answers is new each time.
func TestAllIsNew(t *testing.T) {
	const b = "a\xc3\xa9"
	first, _ := utf.All(b)
	second, _ := utf.All(b)
	first[0], first[1] = 'x', 'y'
	if !slices.Equal(second, []rune{'a', 0xe9}) {
		t.Errorf("a second list hangs on the first: %x", second)
	}
	expectAll(t, b, []rune{'a', 0xe9})
}

// P1.1: Join of characters, and of numbers that are none among them.
func TestJoin(t *testing.T) {
	for _, c := range []struct {
		numbers []rune
		want    string
	}{
		{nil, ""},
		{[]rune{0}, "\x00"},
		{[]rune{'c', 'a', 'f', 0xe9}, "caf\xc3\xa9"},
		{[]rune{'b', -5}, "b"},
		{[]rune{0xd800, 'b', 0xdfff, 0x110000, 0xe9, -1}, "b\xc3\xa9"},
		{[]rune{0xd83c, 0xdf1f}, ""},
		{[]rune{0xfffd, 0xd800, 0xfffd}, "\xef\xbf\xbd\xef\xbf\xbd"},
		{[]rune{math.MinInt32, math.MaxInt32}, ""},
	} {
		if got := utf.Join(c.numbers...); got != c.want {
			t.Errorf("Join(%x) = % x, want % x", c.numbers, got, c.want)
		}
	}
	if got := utf.Join(); got != "" {
		t.Errorf("Join() = % x", got)
	}
}

// R5: Join leaves its list as it is, and the room behind it.
func TestJoinLeavesItsList(t *testing.T) {
	list := []rune{'a', -1, 0xe9, 'x', 'y'}
	utf.Join(list[:3]...)
	if !slices.Equal(list, []rune{'a', -1, 0xe9, 'x', 'y'}) {
		t.Errorf("the list is now %x", list)
	}
}

// P1.2: any characters, joined, are read as they were; what is read, joined,
// is the bytes as they were, and Next reads the same one by one.
func TestReadAsWritten(t *testing.T) {
	var good []rune
	for _, e := range edges() {
		if e.bytes != "" {
			good = append(good, e.number)
		}
	}
	for _, a := range good {
		for _, b := range good {
			for _, c := range good {
				checkReadAsWritten(t, []rune{a, b, c})
			}
		}
	}
}

func checkReadAsWritten(t *testing.T, characters []rune) {
	t.Helper()
	text := utf.Join(characters...)
	expectAll(t, text, characters)
	read, _ := utf.All(text)
	if again := utf.Join(read...); again != text {
		t.Errorf("Join(All(% x)) = % x", text, again)
	}
	at := 0
	for _, r := range characters {
		expectNext(t, text, at, r, len(utf.Bytes(r)))
		at += len(utf.Bytes(r))
	}
	if at != len(text) {
		t.Errorf("the characters of % x have %d bytes", text, at)
	}
}
