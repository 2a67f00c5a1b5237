package escape_test

import (
	"math"
	"strings"
	"testing"
	"unicode/utf8"

	"toponym/api"
	"toponym/escape"
)

const encodings = 9

func noEncodings() []int {
	return []int{-1, 9, 10, -8, 255, 256, 264, math.MinInt, math.MaxInt, math.MinInt32, math.MaxInt32, 1 << 32, 1<<32 + 8}
}

// reserved are the characters that a name never shows, but the % of escapes.
func reserved() []rune {
	l := []rune{0x7f, 0x22, 0x25, 0x2a, 0x2f, 0x3a, 0x3c, 0x3e, 0x3f, 0x5c, 0x7c}
	for r := range rune(0x20) {
		l = append(l, r)
	}
	return l
}

// shown is a name on a disk, and how it is presented.
type shown struct {
	enc  int
	raw  string
	name string
}

func expectGood(t *testing.T, raw string, want bool) {
	t.Helper()
	if escape.Good(raw) != want {
		t.Errorf("Good(% x) = %v; want %v", raw, !want, want)
	}
}

func expectPresent(t *testing.T, enc int, raw, want string) {
	t.Helper()
	if name := escape.Present(enc, raw); name != want {
		t.Errorf("Present(%d, % x) = %+q; want %+q", enc, raw, name, want)
	}
}

func expectRestore(t *testing.T, enc int, name, want string) {
	t.Helper()
	if raw, err := escape.Restore(enc, name); raw != want || err != api.OK {
		t.Errorf("Restore(%d, %+q) = % x, %d; want % x, OK", enc, name, raw, err, want)
	}
}

func expectNone(t *testing.T, enc int, name string) {
	t.Helper()
	if raw, err := escape.Restore(enc, name); raw != "" || err != api.ErrName {
		t.Errorf("Restore(%d, %+q) = % x, %d; want \"\", ErrName", enc, name, raw, err)
	}
}

// expectShown asks for both ways; a name that isn't good has one alone.
func expectShown(t *testing.T, enc int, raw, name string) {
	t.Helper()
	expectPresent(t, enc, raw, name)
	if escape.Good(raw) {
		expectRestore(t, enc, name, raw)
	} else {
		expectNone(t, enc, name)
	}
}

func expectAllShown(t *testing.T, l []shown) {
	t.Helper()
	for _, s := range l {
		expectShown(t, s.enc, s.raw, s.name)
	}
}

// P4.1: a good name has 1 to MaxRaw bytes, and isn't one point, or two.
func TestGood(t *testing.T) {
	for _, raw := range []string{"a", "...", "....", ".a", "a.", "..a", " ", "%", "\xff", "\x01", "\x80", "\u2024", ". ", " .", strings.Repeat(".", 255), strings.Repeat("x", 254), strings.Repeat("\xff", 255)} {
		expectGood(t, raw, true)
	}
	for _, raw := range []string{"", ".", "..", "\x00", "/", strings.Repeat("x", 256), strings.Repeat(".", 256), strings.Repeat("x", 512), strings.Repeat("x", 65537)} {
		expectGood(t, raw, false)
	}
}

// P4.1: no byte of a good name is 0 or 2f, in whatever place; each other may be.
func TestGoodBytes(t *testing.T) {
	for b := range 256 {
		expectGood(t, "x"+string([]byte{byte(b)}), b != 0 && b != 0x2f)
	}
	for _, size := range []int{1, 2, 3, 17, 255} {
		for at := range size {
			for _, b := range []byte{0, 0x2f} {
				raw := []byte(strings.Repeat("x", size))
				raw[at] = b
				expectGood(t, string(raw), false)
			}
		}
	}
}

// P4.1: the reserved characters are those that the chapter names, and no
// others; a number that is no character isn't reserved.
func TestReserved(t *testing.T) {
	is := map[rune]bool{}
	for _, r := range reserved() {
		is[r] = true
	}
	for r := rune(-0x10000); r <= 0x120000; r++ {
		if escape.Reserved(r) != is[r] {
			t.Errorf("Reserved(%x) = %v", r, !is[r])
		}
	}
	for _, r := range []rune{math.MinInt32, math.MinInt32 + 0x3a, math.MaxInt32, math.MaxInt32 - 0xff + 0x3a, 0x1000000 + 0x3a, -0x1000000 + 0x3a} {
		if escape.Reserved(r) {
			t.Errorf("Reserved(%x)", r)
		}
	}
}

// P4.1: a text of an encoding's characters is presented as it is.
func TestPresentPlain(t *testing.T) {
	expectAllShown(t, []shown{
		{api.ASCII, "a name.txt", "a name.txt"},
		{api.Latin1, "caf\xe9", "caf\u00e9"},
		{api.Latin1, "\x80\x9f\xa0\xff", "\u0080\u009f\u00a0\u00ff"},
		{api.Latin2, "\xa1\xbe\xff", "\u0104\u017e\u02d9"},
		{api.Latin9, "\xa4 \xe9", "\u20ac \u00e9"},
		{api.CP437, "\x80\xe9\xff", "\u00c7\u0398\u00a0"},
		{api.CP850, "\x80\xd5\xf0", "\u00c7\u0131\u00ad"},
		{api.Kana, "\x83\x41\xb1A\x82\x60", "\u30a2\uff71A\uff21"},
		{api.UTF8, "\u00e9e\u0301\u0301\U0001f600", "\u00e9e\u0301\u0301\U0001f600"},
		{api.UTF8, "\u0301", "\u0301"},
		{api.UTF8, "\u1100\u1161", "\u1100\u1161"},
		{api.HFS, "x\u0153\U0001f600", "x\u0153\U0001f600"},
	})
}

// P4.1: of a bad piece the byte is escaped, in small letters.
func TestPresentBad(t *testing.T) {
	expectAllShown(t, []shown{
		{api.ASCII, "caf\xe9", "caf%e9"},
		{api.ASCII, "\x80", "%80"},
		{api.ASCII, "\xab\xcd\xef", "%ab%cd%ef"},
		{api.Kana, "\x82A", "%82A"},
		{api.Kana, "\x83\x41\x83", "\u30a2%83"},
		{api.Kana, "\x80\xa0\xe0\xff", "%80%a0%e0%ff"},
		{api.Kana, "\x83\x7f", "%83%7f"},
		{api.Kana, "\x84\x3a", "%84%3a"},
		{api.UTF8, "\xc3", "%c3"},
		{api.UTF8, "\xc3a", "%c3a"},
		{api.UTF8, "\xc0\x80\xed\xa0\x80", "%c0%80%ed%a0%80"},
		{api.UTF8, "\u00e9\xff\u00e9", "\u00e9%ff\u00e9"},
		{api.UTF8, "\xe3\x81.", "%e3%81%2e"},
		{api.HFS, "\xff", "%ff"},
	})
}

// P4.1: no byte of the tables without a gap is a bad piece.
func TestPresentWholeTables(t *testing.T) {
	for _, enc := range []int{api.Latin1, api.Latin2, api.Latin9, api.CP437, api.CP850} {
		for b := 0x80; b < 0x100; b++ {
			name := escape.Present(enc, string([]byte{byte(b)}))
			if utf8.RuneCountInString(name) != 1 || name[0] < 0x80 {
				t.Errorf("Present(%d, %x) = %+q", enc, b, name)
			}
		}
	}
}

// P4.1: a reserved character is escaped in each encoding, wherever it stands.
func TestPresentReserved(t *testing.T) {
	const digits = "0123456789abcdef"
	for enc := range encodings {
		for _, r := range reserved() {
			escaped := "%" + digits[r>>4:r>>4+1] + digits[r&15:r&15+1]
			expectShown(t, enc, string(r), escaped)
			expectShown(t, enc, string(r)+"a", escaped+"a")
			expectShown(t, enc, "a"+string(r), "a"+escaped)
			expectShown(t, enc, string(r)+string(r), escaped+escaped)
		}
		expectShown(t, enc, "%41", "%2541")
		expectShown(t, enc, "%%25", "%25%2525")
		for _, r := range "!#$&'()+,-09;=@AZ[]^_`az{}~" {
			expectShown(t, enc, string(r), string(r))
		}
	}
}

// P4.1: a point or a blank is escaped where it is the last piece, not elsewhere.
func TestPresentLast(t *testing.T) {
	for enc := range encodings {
		expectShown(t, enc, ".", "%2e")
		expectShown(t, enc, "..", ".%2e")
		expectShown(t, enc, "...", "..%2e")
		expectShown(t, enc, " ", "%20")
		expectShown(t, enc, "  ", " %20")
		expectShown(t, enc, ". ", ".%20")
		expectShown(t, enc, " .", " %2e")
		expectShown(t, enc, ".a", ".a")
		expectShown(t, enc, " a. b", " a. b")
		expectShown(t, enc, "a.", "a%2e")
		expectShown(t, enc, "a..", "a.%2e")
		expectShown(t, enc, ".:", ".%3a")
		expectShown(t, enc, " \x01", " %01")
	}
	expectAllShown(t, []shown{
		{api.Latin1, "caf\xe9.", "caf\u00e9%2e"},
		{api.Latin1, " \xa0", " \u00a0"},
		{api.ASCII, ".\xff", ".%ff"},
		{api.Kana, "\x83\x41.", "\u30a2%2e"},
		{api.Kana, "\x83.", "%83%2e"},
		{api.UTF8, " \u0301", " \u0301"},
		{api.UTF8, "x\u3002\u2024", "x\u3002\u2024"},
	})
}

// P4.1: of no bytes, and of what is no encoding, nothing is presented.
func TestPresentNothing(t *testing.T) {
	for enc := range encodings {
		expectPresent(t, enc, "", "")
		expectNone(t, enc, "")
	}
	for _, enc := range noEncodings() {
		for _, raw := range []string{"", "a", ".", ":", "%", "\xff", "\u00e9", "e\u0301", strings.Repeat("x", 300)} {
			expectPresent(t, enc, raw, "")
		}
		for _, name := range []string{"", "a", "%2e", "a%2e", "%3a", "%ff", "%", "\u00e9", "%41"} {
			expectNone(t, enc, name)
		}
	}
}

// P4.1: a name is presented, however long, of whatever bytes; it is restored
// up to MaxRaw bytes.
func TestPresentLong(t *testing.T) {
	for enc := range encodings {
		for _, size := range []int{90, 254, 255, 256, 257, 1000, 70000} {
			expectShown(t, enc, strings.Repeat("*", size), strings.Repeat("%2a", size))
			expectShown(t, enc, strings.Repeat("a", size), strings.Repeat("a", size))
			expectShown(t, enc, strings.Repeat(" ", size), strings.Repeat(" ", size-1)+"%20")
			expectShown(t, enc, strings.Repeat("\x00", size), strings.Repeat("%00", size))
		}
	}
	for _, count := range []int{127, 128, 40000} {
		expectShown(t, api.Kana, strings.Repeat("\x83\x41", count), strings.Repeat("\u30a2", count))
		expectShown(t, api.UTF8, strings.Repeat("\u00e9", count), strings.Repeat("\u00e9", count))
		expectShown(t, api.HFS, strings.Repeat("\u00e9", count), strings.Repeat("%c3%a9", count))
		expectShown(t, api.HFS, strings.Repeat("\u0301", count), strings.Repeat("%cc%81", count))
		expectShown(t, api.HFS, strings.Repeat("\u0153", count), strings.Repeat("\u0153", count))
	}
	for _, count := range []int{85, 86, 30000} {
		expectShown(t, api.HFS, strings.Repeat("e\u0301", count), strings.Repeat("\u00e9", count))
	}
}

// P4.1: what is restored has the bytes of an encoding's characters.
func TestRestoreNoEscape(t *testing.T) {
	for _, s := range []shown{
		{api.ASCII, "", "\u00e9"},
		{api.ASCII, "", "a\u0080"},
		{api.Latin1, "", "\u20ac"},
		{api.Latin1, "", "\u0100"},
		{api.Latin2, "", "\u00a1"},
		{api.Latin9, "", "\u00a4"},
		{api.CP437, "", "\u0080"},
		{api.CP850, "", "\u0398"},
		{api.Kana, "", "\u00e9"},
		{api.Kana, "", "\u30a2\u00a5"},
		{api.Kana, "", "e\u0301"},
	} {
		expectNone(t, s.enc, s.name)
		expectNone(t, s.enc, "x"+s.name+"x")
	}
}

// P4.1: a % is of an escape: two small digits behind it, of a byte that isn't
// presented plainly where it stands.
func TestRestoreWrongEscapes(t *testing.T) {
	for enc := range encodings {
		for _, name := range []string{
			"%", "%%", "%2", "%3", "a%", "a%3", "%3a%", "%3a%3", "%3a%%", "%%3a", "%%%", "%3%3a",
			"%3A", "%2A", "%5C", "%7C", "%FF", "%fF", "%Ff", "%0A",
			"%3g", "%g3", "%-1", "% 1", "%+3", "%:a", "%3:", "%x3", "%0x3a", "%\u0663a", "%3\uff41", "%\u00e9a", "%3\u0301",
			"%41", "%61", "%2ea", "%2e%2ea", "%20a", "%20%2e%2d", "%2d", "%7e", "%30", "a%62", "%5f",
			"%253a%41", "%2e.", "%20 ",
		} {
			expectNone(t, enc, name)
		}
	}
	for _, s := range []shown{
		{api.Latin1, "", "caf%e9"},
		{api.Latin1, "", "%80"},
		{api.CP437, "", "%ff"},
		{api.Kana, "", "%b1"},
		{api.Kana, "", "%83A"},
		{api.Kana, "", "%83%41"},
		{api.Kana, "", "%82%60"},
		{api.UTF8, "", "%c3%a9"},
		{api.UTF8, "", "%e3%81%82"},
		{api.UTF8, "", "a%cc%81"},
		{api.HFS, "", "e%cc%81"},
		{api.HFS, "", "%c5%93"},
		{api.HFS, "", "%e1%84%80%e1%85%a1"},
		{api.HFS, "", "%cc%81\u00e9%c3%a9"},
		{api.HFS, "", "\u0153%c3%a9"},
		{api.HFS, "", "\u0153%ff"},
		{api.HFS, "", "%cc%81%c5%93"},
	} {
		expectNone(t, s.enc, s.name)
	}
}

// P4.1: no name shows a reserved character, or ends with a point or a blank.
func TestRestoreReserved(t *testing.T) {
	for enc := range encodings {
		for _, r := range reserved() {
			for _, name := range []string{string(r), "a" + string(r), string(r) + "a", "%3a" + string(r) + "b"} {
				expectNone(t, enc, name)
			}
		}
		for _, name := range []string{".", "..", "...", " ", "  ", "a.", "a ", "a. ", "a .", "%3a.", "%3a ", "a%2e ", "a%20."} {
			expectNone(t, enc, name)
		}
	}
}

// P4.1: what isn't UTF-8 is no name.
func TestRestoreNotUTF8(t *testing.T) {
	for enc := range encodings {
		for _, name := range []string{"\xff", "a\xe9", "\xc3", "a\xc3b", "\xc0\x80", "\xed\xa0\x80", "\xf4\x90\x80\x80", "\x80", "%\xff\xff", "%3\xa9", "%3a\xe9", "a%3a\xc3"} {
			expectNone(t, enc, name)
		}
	}
	for b := 0x80; b < 0x100; b++ {
		expectNone(t, api.UTF8, "a"+string([]byte{byte(b)}))
		expectNone(t, api.HFS, "a"+string([]byte{byte(b)}))
	}
	expectRestore(t, api.UTF8, "\ufffd", "\ufffd")
	expectNone(t, api.Latin1, "\ufffd")
}

// P4.1: what is presented so, but isn't good, isn't restored.
func TestRestoreNotGood(t *testing.T) {
	for enc := range encodings {
		for _, raw := range []string{"", ".", "..", "\x00", "/", "a\x00", "a/b", "/a", strings.Repeat("x", 256), strings.Repeat(":", 256), strings.Repeat("x", 255) + "."} {
			expectNone(t, enc, escape.Present(enc, raw))
		}
		expectNone(t, enc, "%2e")
		expectNone(t, enc, ".%2e")
		expectNone(t, enc, "%2e%2e")
		expectNone(t, enc, "a%00")
		expectNone(t, enc, "%2fa")
		expectRestore(t, enc, "..%2e", "...")
		expectRestore(t, enc, strings.Repeat("x", 254)+"%2e", strings.Repeat("x", 254)+".")
		expectRestore(t, enc, strings.Repeat("%3a", 255), strings.Repeat(":", 255))
	}
}
