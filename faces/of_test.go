package faces_test

import (
	"math"
	"strings"
	"testing"

	"toponym/api"
	"toponym/escape"
	"toponym/faces"
)

// shorts are numbers that have short names.
func shorts() []int {
	return []int{1, 2, 9, 10, 255, 999999, 1000000}
}

// noShorts are those that have none, but 0.
func noShorts() []int {
	return []int{-1, -2, -1000000, 1000001, 2000000, 1 << 32, 1<<32 + 1, math.MinInt32, math.MaxInt32, math.MinInt, math.MaxInt}
}

// expectFace asks for a name, whose presentation is written out, with and
// without a Short.
func expectFace(t *testing.T, enc int, raw, shown string) {
	t.Helper()
	long := len(shown) > api.MaxName
	expectOf(t, enc, named(raw, 0), shown)
	expectFits(t, enc, named(raw, 0), !long)
	for _, n := range shorts() {
		expectOf(t, enc, named(raw, n), wantedShort(raw, n))
		expectFits(t, enc, named(raw, n), long)
	}
	for _, n := range noShorts() {
		expectOf(t, enc, named(raw, n), "")
		expectFits(t, enc, named(raw, n), long)
	}
}

// P14.1: names of no bytes, of one, of 255 and of more, with a Short of 0, and
// with others: the face is what is presented, however long, or a short name.
func TestOf(t *testing.T) {
	for enc := range encodings {
		expectFace(t, enc, "", "")
		expectFace(t, enc, "a", "a")
		expectFace(t, enc, "*", "%2a")
		expectFace(t, enc, ".", "%2e")
		expectFace(t, enc, " ", "%20")
		expectFace(t, enc, "a name.txt", "a name.txt")
		expectFace(t, enc, "\x00", "%00")
		expectFace(t, enc, "a/b", "a%2fb")
		expectFace(t, enc, letters(254), letters(254))
		expectFace(t, enc, letters(255), letters(255))
		expectFace(t, enc, letters(256), letters(256))
		expectFace(t, enc, letters(1000), letters(1000))
		expectFace(t, enc, stars(255), strings.Repeat("%2a", 255))
		expectFace(t, enc, stars(256), strings.Repeat("%2a", 256))
	}
}

// P14.1: names that are long, and aren't, by one byte.
func TestOfByOne(t *testing.T) {
	for enc := range encodings {
		expectFace(t, enc, stars(84)+"aaa", strings.Repeat("%2a", 84)+"aaa")
		expectFace(t, enc, stars(84)+"aaaa", strings.Repeat("%2a", 84)+"aaaa")
		expectFace(t, enc, stars(85), strings.Repeat("%2a", 85))
		expectFace(t, enc, stars(85)+"a", strings.Repeat("%2a", 85)+"a")
		expectFace(t, enc, letters(252)+".", letters(252)+"%2e")
		expectFace(t, enc, letters(253)+".", letters(253)+"%2e")
		expectFace(t, enc, letters(252)+" ", letters(252)+"%20")
		expectFace(t, enc, letters(253)+" ", letters(253)+"%20")
		expectFace(t, enc, letters(254)+".a", letters(254)+".a")
	}
}

// P14.1: bytes that are each encoding's, and bytes that are no character's.
func TestOfCharacters(t *testing.T) {
	for _, x := range []struct {
		enc   int
		part  string
		shown string
		count int
	}{
		{api.ASCII, "\x80", "%80", 85},
		{api.ASCII, "\xff", "%ff", 85},
		{api.Latin1, "\xe9", "\u00e9", 127},
		{api.Latin2, "\xff", "\u02d9", 127},
		{api.Latin9, "\xa4", "\u20ac", 85},
		{api.CP437, "\xe9", "\u0398", 127},
		{api.CP437, "\xb0", "\u2591", 85},
		{api.CP850, "\xd5", "\u0131", 127},
		{api.Kana, "\x83\x41", "\u30a2", 85},
		{api.Kana, "\xb1", "\uff71", 85},
		{api.Kana, "\xff", "%ff", 85},
		{api.Kana, "\x80", "%80", 85},
		{api.UTF8, "\u00e9", "\u00e9", 127},
		{api.UTF8, "\U0001f600", "\U0001f600", 63},
		{api.UTF8, "\xff", "%ff", 85},
		{api.UTF8, "\xed\xa0\x80", "%ed%a0%80", 28},
		{api.HFS, "e\u0301", "\u00e9", 127},
		{api.HFS, "\u00e9", "%c3%a9", 42},
		{api.HFS, "\u0301", "%cc%81", 42},
		{api.HFS, "\xff", "%ff", 85},
	} {
		shown := strings.Repeat(x.shown, x.count)
		rest := api.MaxName - len(shown)
		expectFace(t, x.enc, x.part, x.shown)
		expectFace(t, x.enc, strings.Repeat(x.part, x.count)+letters(rest), shown+letters(rest))
		expectFace(t, x.enc, strings.Repeat(x.part, x.count)+letters(rest+1), shown+letters(rest+1))
		expectFace(t, x.enc, strings.Repeat(x.part, x.count+1), shown+x.shown)
	}
}

// P14.1: a face, and whether an entry fits, hang on the name and the Short alone.
func TestOfOtherFields(t *testing.T) {
	for enc := range encodings {
		for _, e := range []api.Entry{
			{Name: "b*", Node: -1, Cookie: -5},
			{Name: "b*", Node: 200, Dir: true, Cookie: math.MaxInt64},
			{Name: "b*"},
		} {
			expectOf(t, enc, e, "b%2a")
			expectFits(t, enc, e, true)
			e.Short = 3
			expectOf(t, enc, e, wantedShort("b*", 3))
			expectFits(t, enc, e, false)
			e.Name = stars(99)
			expectFits(t, enc, e, true)
		}
	}
}

// P14.1: each byte, and each two of some, are faced as they are presented.
func TestOfPresented(t *testing.T) {
	for enc := range encodings {
		for a := range 256 {
			one := string([]byte{byte(a)})
			expectFace(t, enc, one, escape.Present(enc, one))
			for _, b := range []byte{0x01, 0x20, 0x25, 0x2e, 0x41, 0x7f, 0x81, 0xa9, 0xcc, 0xff} {
				two := one + string([]byte{b})
				expectOf(t, enc, named(two, 0), escape.Present(enc, two))
				expectOf(t, enc, named(two, 1), wantedShort(two, 1))
				expectFits(t, enc, named(two, 0), true)
				expectFits(t, enc, named(two, 1), false)
			}
		}
	}
}

// P14.1: Names of a list of none, of one and of many are the faces of each, in
// their order, those that are there twice, too.
func TestNames(t *testing.T) {
	for enc := range encodings {
		expectNames(t, enc, nil)
		expectNames(t, enc, []api.Entry{})
		expectNames(t, enc, []api.Entry{named("b.", 0)}, "b%2e")
		expectNames(t, enc, []api.Entry{named("", 0)}, "")
		expectNames(t, enc, []api.Entry{named(stars(86), 0)}, strings.Repeat("%2a", 86))
		expectNames(t, enc, []api.Entry{named(stars(86), 4)}, wantedShort(stars(86), 4))
		expectNames(t, enc, []api.Entry{named("b", 0), named("a", 0), named(stars(90), 2), named("b", 0), named("a", -1), named("\x01", 1), named("", 0)},
			"b", "a", wantedShort(stars(90), 2), "b", "", wantedShort("\x01", 1), "")
	}
}

// P14.1: of many, as Of of each.
func TestNamesMany(t *testing.T) {
	draw := drawer()
	for enc := range encodings {
		var l []api.Entry
		for range 1000 {
			raw := make([]byte, draw(300))
			for i := range raw {
				raw[i] = byte(draw(256))
			}
			l = append(l, named(string(raw), draw(3)-1))
		}
		names := faces.Names(enc, l)
		if len(names) != len(l) {
			t.Fatalf("%d: %d names of %d", enc, len(names), len(l))
		}
		for i, e := range l {
			expectOf(t, enc, e, names[i])
		}
	}
}
