package faces_test

import (
	"strings"
	"testing"

	"toponym/api"
	"toponym/escape"
	"toponym/faces"
)

// P14.2: a name of MaxName bytes is restored, of one more it is ErrLong.
func TestRawLength(t *testing.T) {
	for enc := range encodings {
		expectRaw(t, enc, "a", "a", api.OK)
		expectRaw(t, enc, letters(254), letters(254), api.OK)
		expectRaw(t, enc, letters(255), letters(255), api.OK)
		expectRaw(t, enc, letters(256), "", api.ErrLong)
		expectRaw(t, enc, letters(257), "", api.ErrLong)
		expectRaw(t, enc, letters(70000), "", api.ErrLong)
		expectRaw(t, enc, strings.Repeat("%2a", 84), stars(84), api.OK)
		expectRaw(t, enc, strings.Repeat("%2a", 85), stars(85), api.OK)
		expectRaw(t, enc, strings.Repeat("%2a", 85)+"a", "", api.ErrLong)
		expectRaw(t, enc, strings.Repeat("%2a", 86), "", api.ErrLong)
		expectRaw(t, enc, letters(252)+"%2e", letters(252)+".", api.OK)
		expectRaw(t, enc, letters(253)+"%20", "", api.ErrLong)
	}
}

// P14.2: bytes count, not characters: of two, of three and of four bytes each.
func TestRawLengthOfCharacters(t *testing.T) {
	for _, x := range []struct {
		enc   int
		part  string
		shown string
	}{
		{api.Latin1, "\xe9", "\u00e9"},
		{api.Latin2, "\xff", "\u02d9"},
		{api.Latin9, "\xa4", "\u20ac"},
		{api.CP437, "\xb0", "\u2591"},
		{api.CP850, "\xd5", "\u0131"},
		{api.Kana, "\x83\x41", "\u30a2"},
		{api.UTF8, "\U0001f600", "\U0001f600"},
		{api.HFS, "\u0153", "\u0153"},
	} {
		count := api.MaxName / len(x.shown)
		rest := api.MaxName % len(x.shown)
		name := letters(rest) + strings.Repeat(x.shown, count)
		expectRaw(t, x.enc, name, letters(rest)+strings.Repeat(x.part, count), api.OK)
		expectRaw(t, x.enc, "a"+name, "", api.ErrLong)
		expectRaw(t, x.enc, name+"\xff", "", api.ErrLong)
	}
}

// noNames are presented of no good name: in no encoding.
func noNames() []string {
	return []string{
		"", ".", "..", "%2e%2e", "a.", "a ", " ", "a/b", "/", "\x00", "a\x01", "a\x7f", "a?", "a*b", "a:", "<", ">", "a|", "a\\", "\"",
		"%", "%2", "a%", "%%", "%2E", "%2A", "%41", "%61", "%00", "%2f", "a%2fb", "%g0", "% 1", "%2eb", "%20b", "%~", "%~e40c292c-1", "%~a99fd875-1",
		"\xff", "a\xff", "\xc3", "\xc0\xaf", "\xed\xa0\x80", "\xf4\x90\x80\x80", "caf\xe9",
	}
}

// P14.2: of what can't be restored it is layer 4's error.
func TestRawNone(t *testing.T) {
	for enc := range encodings {
		for _, name := range noNames() {
			if _, err := escape.Restore(enc, name); err != api.ErrName {
				t.Fatalf("Restore(%d, %+q) = %d", enc, name, err)
			}
			expectRaw(t, enc, name, "", api.ErrName)
		}
	}
	expectRaw(t, api.ASCII, "\u00e9", "", api.ErrName)
	expectRaw(t, api.ASCII, "caf\u00e9", "", api.ErrName)
	expectRaw(t, api.Latin1, "\u20ac", "", api.ErrName)
	expectRaw(t, api.Latin1, "caf%e9", "", api.ErrName)
	expectRaw(t, api.Latin9, "\u00a4", "", api.ErrName)
	expectRaw(t, api.CP437, "\u20ac", "", api.ErrName)
	expectRaw(t, api.Kana, "\u65e5", "", api.ErrName)
	expectRaw(t, api.UTF8, "%c3%a9", "", api.ErrName)
	expectRaw(t, api.HFS, "e\u0301", "", api.ErrName)
	expectRaw(t, api.HFS, "e%cc%81", "", api.ErrName)
	expectRaw(t, api.HFS, "\u0301", "", api.ErrName)
}

// P14.2: on a disk of HFS a name of MaxName bytes may be that of more bytes than
// a good name has.
func TestRawNotGood(t *testing.T) {
	expectRaw(t, api.HFS, strings.Repeat("\u00e9", 85), strings.Repeat("e\u0301", 85), api.OK)
	expectRaw(t, api.HFS, strings.Repeat("\u00e9", 86), "", api.ErrName)
	expectRaw(t, api.HFS, strings.Repeat("\u00e9", 127), "", api.ErrName)
	expectRaw(t, api.HFS, strings.Repeat("\u00e9", 127)+"a", "", api.ErrName)
	expectRaw(t, api.HFS, strings.Repeat("\u00e9", 128), "", api.ErrLong)
}

// P14.2: a name that is too long is that ahead of one that can't be restored.
func TestRawOrder(t *testing.T) {
	for enc := range encodings {
		for _, name := range noNames() {
			fill := max(0, api.MaxName-len(name))
			expectRaw(t, enc, strings.Repeat("*", fill)+name, "", api.ErrName)
			expectRaw(t, enc, strings.Repeat("*", fill+1)+name, "", api.ErrLong)
			expectRaw(t, enc, name+strings.Repeat("\xff", fill), "", api.ErrName)
			expectRaw(t, enc, name+strings.Repeat("\xff", fill+1), "", api.ErrLong)
		}
	}
	for _, enc := range noEncodings() {
		expectRaw(t, enc, "a", "", api.ErrName)
		expectRaw(t, enc, letters(255), "", api.ErrName)
		expectRaw(t, enc, letters(256), "", api.ErrLong)
		expectRaw(t, enc, strings.Repeat("\xff", 256), "", api.ErrLong)
	}
}

// expectMade asks of a name that there is: that its bytes are presented so, fit
// without a Short, and are found by it.
func expectMade(t *testing.T, enc int, name string) {
	t.Helper()
	raw, err := faces.Raw(enc, name)
	if err != api.OK {
		t.Fatalf("Raw(%d, %+q) = %d", enc, name, err)
	}
	if !escape.Good(raw) || escape.Present(enc, raw) != name {
		t.Errorf("Raw(%d, %+q) = % x", enc, name, raw)
	}
	e := named(raw, faces.Pick(enc, rowOf("a", raw), raw))
	expectOf(t, enc, e, name)
	expectFits(t, enc, e, true)
	expectFound(t, enc, []api.Entry{named("-", 0), e}, name, e)
	if e.Short != 0 {
		t.Errorf("Pick(%d, % x) = %d", enc, raw, e.Short)
	}
}

// P14.2: what it tells of a name is presented so, and fits.
func TestRawPresented(t *testing.T) {
	for enc := range encodings {
		for a := 1; a < 256; a++ {
			for b := 1; b < 256; b++ {
				raw := string([]byte{byte(a), byte(b)})
				if !escape.Good(raw) || a != b && b%16 != 1 && b != '.' && b != ' ' {
					continue
				}
				name := escape.Present(enc, raw)
				expectMade(t, enc, name)
				expectRaw(t, enc, name, raw, api.OK)
			}
		}
		expectMade(t, enc, letters(255))
		expectMade(t, enc, strings.Repeat("%2a", 85))
		expectMade(t, enc, letters(252)+"%2e")
	}
}

// P14.2: no short name, and no long name's presentation, is made of any bytes.
func TestRawOfFaces(t *testing.T) {
	for enc := range encodings {
		for n := 86; n <= 255; n++ {
			face := faces.Of(enc, named(stars(n), 1))
			expectRaw(t, enc, face, "", api.ErrName)
			expectRaw(t, enc, faces.Of(enc, named(stars(n), 0)), "", api.ErrLong)
		}
	}
}
