package escape_test

import (
	"strings"
	"testing"
	"unicode/utf8"

	"toponym/api"
	"toponym/charset"
	"toponym/compose"
	"toponym/escape"
)

// wantedName says the chapter's rule over again: which pieces are escaped
// first, and then how.
func wantedName(enc int, raw string) string {
	pieces := charset.Pieces(enc, raw)
	hidden := wantedHidden(enc, pieces)
	var name, plain []rune
	at := 0
	for i, p := range pieces {
		if hidden[i] {
			name = append(append(name, put(enc, plain)...), escapes(raw[at:at+p.Size])...)
			plain = nil
		} else {
			plain = append(plain, p.Rune)
		}
		at += p.Size
	}
	return string(append(name, put(enc, plain)...))
}

func wantedHidden(enc int, pieces []charset.Piece) []bool {
	hidden := make([]bool, len(pieces))
	is := isRegular(pieces)
	for i, p := range pieces {
		switch {
		case p.Rune < 0x20, strings.ContainsRune("\x7f\"%*/:<>?\\|", p.Rune):
			hidden[i] = true
		case i == len(pieces)-1 && (p.Rune == 0x2e || p.Rune == 0x20):
			hidden[i] = true
		case enc == api.HFS && !is:
			hidden[i] = p.Rune >= 0x80
		case enc == api.HFS && compose.Class(p.Rune) > 0:
			hidden[i] = i == 0 || hidden[i-1]
		}
	}
	return hidden
}

func isRegular(pieces []charset.Piece) bool {
	var l []rune
	for _, p := range pieces {
		if p.Rune == -1 {
			return false
		}
		l = append(l, p.Rune)
	}
	return string(compose.Apart(l)) == string(l)
}

func put(enc int, l []rune) []rune {
	if enc == api.HFS {
		return compose.Together(l)
	}
	return l
}

func escapes(bytes string) []rune {
	const digits = "0123456789abcdef"
	var l []rune
	for i := 0; i < len(bytes); i++ {
		l = append(l, '%', rune(digits[bytes[i]/16]), rune(digits[bytes[i]%16]))
	}
	return l
}

// texts are all of up to some parts in a row, of none too, each once.
func texts(parts []string, most int) []string {
	all := []string{""}
	seen := map[string]bool{"": true}
	for row := all; most > 0; most-- {
		var longer []string
		for _, text := range row {
			for _, p := range parts {
				if !seen[text+p] {
					seen[text+p] = true
					longer = append(longer, text+p)
				}
			}
		}
		all = append(all, longer...)
		row = longer
	}
	return all
}

func singles(bytes string) []string {
	var l []string
	for i := range len(bytes) {
		l = append(l, bytes[i:i+1])
	}
	return l
}

func everyByte() []string {
	var l []string
	for b := range 256 {
		l = append(l, string([]byte{byte(b)}))
	}
	return l
}

// parts have, of each encoding, plain characters, reserved ones, and bytes that
// may be a bad piece, or a part of a character.
func parts(enc int) []string {
	switch enc {
	case api.Kana:
		return singles("aA. %2:\x00\x7f\x82\x83\x9f\xb1\xff")
	case api.UTF8:
		return append(singles("e. %c\x00\xc3\xa9\xcc\xe3\x81\x82"), "\u0301", "\u00e9")
	case api.HFS:
		return append(singles("ac. %:\xcc\x81"), "\u0301", "\u0327", "\u0305", "\u00e1", "\u1100", "\u1161", "\u11a8", "\uac00", "\u0153")
	}
	return singles("a. %2e:/\x00\x7f\x80\xe9\xff")
}

// expectShowable is P4.2's of what is presented.
func expectShowable(t *testing.T, enc int, name string) {
	t.Helper()
	if !utf8.ValidString(name) {
		t.Errorf("%d: %+q isn't UTF-8", enc, name)
	}
	bare := name
	for {
		at := strings.IndexByte(bare, '%')
		if at < 0 {
			break
		}
		if len(bare) < at+3 || strings.Trim(bare[at+1:at+3], "0123456789abcdef") != "" {
			t.Errorf("%d: %+q has a %% that is no escape's", enc, name)
			break
		}
		bare = bare[:at] + bare[at+3:]
	}
	for _, r := range reserved() {
		if strings.ContainsRune(bare, r) {
			t.Errorf("%d: %+q shows %x", enc, name, r)
		}
	}
	if strings.HasSuffix(name, ".") || strings.HasSuffix(name, " ") {
		t.Errorf("%d: %+q ends so", enc, name)
	}
	if enc == api.HFS && string(compose.Together(compose.Apart([]rune(name)))) != name {
		t.Errorf("%+q isn't put together as far as can be", name)
	}
}

// expectAll asks for the chapter's rule of each name, and that no two are
// presented alike.
func expectAll(t *testing.T, enc int, names []string) {
	t.Helper()
	came := map[string]string{}
	for _, raw := range names {
		name := escape.Present(enc, raw)
		if want := wantedName(enc, raw); name != want {
			t.Errorf("Present(%d, % x) = %+q; want %+q", enc, raw, name, want)
		}
		if other, ok := came[name]; ok {
			t.Errorf("%d: % x and % x are presented as %+q", enc, raw, other, name)
		}
		came[name] = raw
		expectShowable(t, enc, name)
		if escape.Good(raw) {
			expectRestore(t, enc, name, raw)
		} else {
			expectNone(t, enc, name)
		}
	}
}

// P4.1, P4.2: all names of up to two bytes.
func TestAllShort(t *testing.T) {
	names := texts(everyByte(), 2)
	for enc := range encodings {
		expectAll(t, enc, names)
	}
}

// P4.1, P4.2: all names of up to four parts that may change one another.
func TestAllMixed(t *testing.T) {
	for enc := range encodings {
		expectAll(t, enc, texts(parts(enc), 4))
	}
}

// expectRestored asks, of each name, for just what is presented so.
func expectRestored(t *testing.T, enc int, names, raws []string) {
	t.Helper()
	came := map[string]string{}
	for _, raw := range raws {
		if escape.Good(raw) {
			came[escape.Present(enc, raw)] = raw
		}
	}
	found := 0
	for _, name := range names {
		if raw, ok := came[name]; ok {
			found++
			expectRestore(t, enc, name, raw)
		} else {
			expectNone(t, enc, name)
		}
	}
	if found == 0 || found == len(names) {
		t.Errorf("%d: %d of %d names are presented", enc, found, len(names))
	}
}

// P4.1, P4.2: a name is restored just where one on the disk is presented so: of
// all short ones of escapes whole and wrong. The bytes are all that one of
// these names may stand for.
func TestRestoreAllEscapes(t *testing.T) {
	names := texts(singles("%2ea."), 5)
	raws := texts(singles("%2ea.\x22\x2a\xe2\xee\xea\xa2\xaa\xae"), 5)
	for _, enc := range []int{api.ASCII, api.Latin1, api.Kana, api.UTF8, api.HFS} {
		expectRestored(t, enc, names, raws)
	}
}

// P4.1, P4.2: on a disk of HFS, of all short ones without an escape, put
// together and not.
func TestRestoreAllTogether(t *testing.T) {
	names := texts([]string{"a", "c", ".", "\u0301", "\u0327", "\u00e1", "\u00e7", "\u0107", "\u0305"}, 3)
	raws := texts([]string{"a", "c", ".", "\u0301", "\u0327", "\u0305"}, 6)
	expectRestored(t, api.HFS, names, raws)
	names = texts([]string{"\u1100", "\u1161", "\u11a8", "\uac00", "\uac01", "a"}, 3)
	raws = texts([]string{"\u1100", "\u1161", "\u11a8", "a"}, 9)
	expectRestored(t, api.HFS, names, raws)
}
