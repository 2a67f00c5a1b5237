package short_test

import (
	"strings"
	"testing"

	"toponym/api"
	"toponym/escape"
	"toponym/short"
)

// shortNames are those of hashes with each digit in each place, and of numbers
// of each length.
func shortNames() []string {
	var l []string
	for _, hash := range append(hashes(), short.Hash(""), short.Hash("caf\xe9"), short.Hash(strings.Repeat("*", 90))) {
		for _, n := range numbers() {
			l = append(l, short.Name(hash, n))
		}
	}
	return l
}

// likeShort are bytes that stand near a short name: it, what it would be
// presented by, what could be read for its first two characters, and parts.
func likeShort(name string) []string {
	behind := name[len("%~"):]
	l := []string{name, name + name, name + ".", name + "a", "a" + name, "%" + name, "~" + behind, behind, "%25~" + behind, "%%7e" + behind, "%7e" + behind, "\x25\xfe" + behind, "%\u0303" + behind, "%\uff5e" + behind, "\uff05~" + behind, "\x00~" + behind, "\xff~" + behind, "/~" + behind, strings.ToUpper(name), strings.Replace(name, "-", ".", 1)}
	for at := range len(name) {
		l = append(l, name[:at], name[at:])
	}
	return l
}

// expectNotShort asks for what is presented, whether it is a short name.
func expectNotShort(t *testing.T, enc int, raw string) {
	t.Helper()
	name := escape.Present(enc, raw)
	if hash, n, ok := short.Read(name); ok {
		t.Errorf("%d: % x is presented as %+q, the short name of %x, %d", enc, raw, name, hash, n)
	}
	if strings.HasPrefix(name, "%~") {
		t.Errorf("%d: % x is presented as %+q", enc, raw, name)
	}
}

// P5.2: no short name is presented of any bytes: of up to two of whatever kind,
// and of many.
func TestPresentedOfNone(t *testing.T) {
	for enc := range encodings {
		for a := range 256 {
			expectNotShort(t, enc, string([]byte{byte(a)}))
			for b := range 256 {
				expectNotShort(t, enc, string([]byte{byte(a), byte(b)}))
			}
		}
		for _, raw := range []string{"", "caf\xe9", "\u00e9", "e\u0301", "\x83\x41\x83", strings.Repeat("*", 90), strings.Repeat("\xff", 255), strings.Repeat("%~", 127)} {
			expectNotShort(t, enc, raw)
		}
	}
}

// P5.2: nor is one presented of bytes that look like it.
func TestPresentedOfNoneAlike(t *testing.T) {
	for _, name := range shortNames()[:200] {
		for _, raw := range likeShort(name) {
			for enc := range encodings {
				expectNotShort(t, enc, raw)
			}
		}
	}
}

// P5.2: no short name is restored to any bytes, in whatever encoding.
func TestRestoredToNone(t *testing.T) {
	for _, name := range shortNames() {
		for enc := range encodings {
			if raw, err := escape.Restore(enc, name); raw != "" || err != api.ErrName {
				t.Errorf("Restore(%d, %+q) = % x, %d; want \"\", ErrName", enc, name, raw, err)
			}
		}
		for _, enc := range noEncodings() {
			if raw, err := escape.Restore(enc, name); raw != "" || err != api.ErrName {
				t.Errorf("Restore(%d, %+q) = % x, %d; want \"\", ErrName", enc, name, raw, err)
			}
		}
	}
}

// P5.1, P5.2: a long name's short one has its hash, and isn't what it is
// presented as.
func TestShortOfLong(t *testing.T) {
	for enc := range encodings {
		for _, raw := range []string{strings.Repeat("*", 90), strings.Repeat("\x01", 255), strings.Repeat("a", 254) + "."} {
			expectLong(t, enc, raw, true)
			n := short.Free(1, 2, 4)
			name := short.Name(short.Hash(raw), n)
			expectRead(t, name, wantedHash(raw), 3, true)
			if len(name) > api.MaxName || name == escape.Present(enc, raw) {
				t.Errorf("%d: % x has the short name %+q", enc, raw, name)
			}
		}
	}
}
