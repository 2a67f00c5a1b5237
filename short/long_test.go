package short_test

import (
	"math"
	"strings"
	"testing"

	"toponym/api"
	"toponym/escape"
	"toponym/short"
)

const encodings = 9

func noEncodings() []int {
	return []int{-1, 9, 10, -8, 255, 256, 264, math.MinInt, math.MaxInt, math.MinInt32, math.MaxInt32, 1 << 32, 1<<32 + 8}
}

func expectLong(t *testing.T, enc int, raw string, want bool) {
	t.Helper()
	if short.Long(enc, raw) != want {
		t.Errorf("Long(%d, % x) = %v; want %v", enc, raw, !want, want)
	}
}

// expectEdge fills a name up with a letter until it is presented by just
// MaxName bytes, and then by one more. The size is what raw is presented by.
func expectEdge(t *testing.T, enc int, raw string, size int) {
	t.Helper()
	full := raw + strings.Repeat("a", api.MaxName-size)
	if got := len(escape.Present(enc, full)); got != api.MaxName {
		t.Errorf("%d: % x is presented by %d bytes", enc, full, got)
	}
	expectLong(t, enc, full, false)
	expectLong(t, enc, full+"a", true)
	expectLong(t, enc, raw, false)
	expectLong(t, enc, full+full, true)
}

// P5.1: a name is long, if more than MaxName bytes present it: in each encoding
// of plain bytes, and of escaped ones.
func TestLong(t *testing.T) {
	for enc := range encodings {
		expectEdge(t, enc, "", 0)
		expectEdge(t, enc, "a", 1)
		expectEdge(t, enc, "*", 3)
		expectEdge(t, enc, strings.Repeat("*", 84), 252)
		expectEdge(t, enc, strings.Repeat("%", 85), 255)
		expectEdge(t, enc, strings.Repeat("\x01", 85), 255)
		expectLong(t, enc, strings.Repeat(". ", 127)+"a", false)
		expectLong(t, enc, strings.Repeat(". ", 127), true)
		expectLong(t, enc, strings.Repeat("*", 86), true)
		expectLong(t, enc, strings.Repeat("*", 90), true)
		expectLong(t, enc, strings.Repeat("*", 255), true)
		expectLong(t, enc, strings.Repeat("a", 252)+".", false)
		expectLong(t, enc, strings.Repeat("a", 252)+" ", false)
		expectLong(t, enc, strings.Repeat("a", 253)+".", true)
		expectLong(t, enc, strings.Repeat("a", 253)+" ", true)
		expectLong(t, enc, strings.Repeat("a", 253)+".a", false)
		expectLong(t, enc, strings.Repeat("/", 85), false)
		expectLong(t, enc, strings.Repeat("\x00", 86), true)
		expectLong(t, enc, strings.Repeat("a", 70000), true)
	}
}

// P5.1: bytes that have no character, and characters that become longer.
func TestLongCharacters(t *testing.T) {
	for _, x := range []struct {
		enc   int
		part  string
		count int
		size  int
	}{
		{api.ASCII, "\x80", 85, 3},
		{api.Latin1, "\xe9", 127, 2},
		{api.Latin2, "\xff", 127, 2},
		{api.Latin9, "\xa4", 85, 3},
		{api.CP437, "\xb0", 85, 3},
		{api.CP437, "\xe9", 127, 2},
		{api.CP850, "\xdb", 85, 3},
		{api.CP850, "\xd5", 127, 2},
		{api.Kana, "\xb1", 85, 3},
		{api.Kana, "\x83\x41", 85, 3},
		{api.Kana, "\x84\x40", 127, 2},
		{api.Kana, "\xff", 85, 3},
		{api.UTF8, "\u00e9", 127, 2},
		{api.UTF8, "\u3042", 85, 3},
		{api.UTF8, "\U0001f600", 63, 4},
		{api.UTF8, "\xff", 85, 3},
		{api.UTF8, "\xc0\x80", 42, 6},
		{api.HFS, "\u0153", 127, 2},
		{api.HFS, "e\u0301", 127, 2},
		{api.HFS, "\u1100\u1161\u11a8", 85, 3},
		{api.HFS, "\u00e9", 42, 6},
		{api.HFS, "\u0301", 42, 6},
		{api.HFS, "\xff", 85, 3},
	} {
		expectEdge(t, x.enc, strings.Repeat(x.part, x.count), x.count*x.size)
		expectLong(t, x.enc, strings.Repeat(x.part, x.count+1), true)
	}
	expectLong(t, api.HFS, strings.Repeat("\u0301", 43), true)
	expectLong(t, api.HFS, "a"+strings.Repeat("\u0301", 127), false)
	expectLong(t, api.HFS, "a"+strings.Repeat("\u0301", 128), true)
	expectLong(t, api.HFS, strings.Repeat("\u0153", 100), false)
	expectLong(t, api.HFS, strings.Repeat("\u0153", 100)+"\xff", true)
}

// P5.1: of no bytes, and in what is no encoding, nothing is long.
func TestLongNone(t *testing.T) {
	for enc := range encodings {
		expectLong(t, enc, "", false)
	}
	for _, enc := range noEncodings() {
		for _, raw := range []string{"", "a", strings.Repeat("a", 256), strings.Repeat("*", 90), strings.Repeat("\xff", 255), strings.Repeat("a", 70000)} {
			expectLong(t, enc, raw, false)
		}
	}
}
