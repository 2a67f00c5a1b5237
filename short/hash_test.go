package short_test

import (
	"hash/fnv"
	"strings"
	"testing"

	"toponym/short"
)

// wantedHash says the chapter's rule over again, with a modulo of its own.
func wantedHash(raw string) uint32 {
	hash := uint64(2166136261)
	for i := 0; i < len(raw); i++ {
		hash = (hash ^ uint64(raw[i])) * 16777619 % (1 << 32)
	}
	return uint32(hash)
}

func expectHash(t *testing.T, raw string) {
	t.Helper()
	if hash, want := short.Hash(raw), wantedHash(raw); hash != want {
		t.Errorf("Hash(% x) = %x; want %x", raw, hash, want)
	}
}

// P5.1: the hashes of some bytes, by their numbers.
func TestHashKnown(t *testing.T) {
	for raw, want := range map[string]uint32{
		"":                 0x811c9dc5,
		"a":                0xe40c292c,
		"b":                0xe70c2de5,
		"foo":              0xa9f37ed7,
		"foobar":           0xbf9cf968,
		"\x00":             0x050c5d1f,
		"\xcc\x24\x31\xc4": 0,
	} {
		if hash := short.Hash(raw); hash != want {
			t.Errorf("Hash(% x) = %x; want %x", raw, hash, want)
		}
	}
}

// P5.1: of no bytes, of each one, of each two.
func TestHashShort(t *testing.T) {
	expectHash(t, "")
	for a := range 256 {
		expectHash(t, string([]byte{byte(a)}))
		for b := range 256 {
			expectHash(t, string([]byte{byte(a), byte(b)}))
		}
	}
}

// P5.1: of many bytes, each of which counts, in its place.
func TestHashMany(t *testing.T) {
	raw := make([]byte, 70000)
	for i := range raw {
		raw[i] = byte(i*i + i>>8*7)
	}
	for _, size := range []int{3, 4, 5, 7, 8, 9, 16, 90, 254, 255, 256, 257, 1000, 65535, 65536, 70000} {
		expectHash(t, string(raw[:size]))
		expectHash(t, strings.Repeat("\x00", size))
		expectHash(t, strings.Repeat("\xff", size))
		expectHash(t, strings.Repeat("*", size))
		library := fnv.New32a()
		library.Write(raw[:size])
		if hash := short.Hash(string(raw[:size])); hash != library.Sum32() {
			t.Errorf("Hash of %d bytes = %x; want %x", size, hash, library.Sum32())
		}
	}
	for _, raw := range []string{"\u00e9", "e\u0301", "\u65e5\u672c", "\xff\xfe\x80", "a/b", "a\x00b", ".", ".."} {
		expectHash(t, raw)
	}
}
