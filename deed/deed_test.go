package deed_test

import (
	"strings"
	"testing"

	"toponym/api"
	"toponym/deed"
)

func aLink(dir int, name string, isDir bool, short int) deed.Deed {
	return deed.Deed{Kind: 1, Dir: dir, Name: name, IsDir: isDir, Short: short}
}

func anUnlink(dir int, name string, isDir bool) deed.Deed {
	return deed.Deed{Kind: 2, Dir: dir, Name: name, IsDir: isDir}
}

func aMove(dir int, name string, to int, as string, short int) deed.Deed {
	return deed.Deed{Kind: 3, Dir: dir, Name: name, To: to, As: as, Short: short}
}

// written is a deed, and its bytes.
type written struct {
	d deed.Deed
	b string
}

// table has bytes that are written out, of each kind.
func table() []written {
	long, longer := strings.Repeat("n", 254), strings.Repeat("\xff", 255)
	return []written{
		{aLink(0, "a", false, 0), "\x01\x00\x00\x01a\x00\x00\x00\x00\x00"},
		{aLink(0, "a", true, 0), "\x01\x00\x00\x01a\x01\x00\x00\x00\x00"},
		{aLink(0, "", false, 0), "\x01\x00\x00\x00\x00\x00\x00\x00\x00"},
		{aLink(1, "", true, 1), "\x01\x00\x01\x00\x01\x00\x00\x00\x01"},
		{aLink(258, "caf\xe9", true, 1000000), "\x01\x01\x02\x04caf\xe9\x01\x00\x0f\x42\x40"},
		{aLink(200, "/\x00..", false, 66051), "\x01\x00\xc8\x04/\x00..\x00\x00\x01\x02\x03"},
		{aLink(65535, long, false, 256), "\x01\xff\xff\xfe" + long + "\x00\x00\x00\x01\x00"},
		{aLink(255, longer, true, 65535), "\x01\x00\xff\xff" + longer + "\x01\x00\x00\xff\xff"},
		{anUnlink(0, "a", false), "\x02\x00\x00\x01a\x00"},
		{anUnlink(0, "a", true), "\x02\x00\x00\x01a\x01"},
		{anUnlink(0, "", false), "\x02\x00\x00\x00\x00"},
		{anUnlink(256, "", true), "\x02\x01\x00\x00\x01"},
		{anUnlink(65535, "\x83\x41", true), "\x02\xff\xff\x02\x83\x41\x01"},
		{anUnlink(65280, long, false), "\x02\xff\x00\xfe" + long + "\x00"},
		{anUnlink(1, longer, true), "\x02\x00\x01\xff" + longer + "\x01"},
		{aMove(0, "a", 0, "b", 0), "\x03\x00\x00\x01a\x00\x00\x01b\x00\x00\x00\x00"},
		{aMove(0, "", 0, "", 0), "\x03\x00\x00\x00\x00\x00\x00\x00\x00\x00\x00"},
		{aMove(1, "ab", 2, "cde", 3), "\x03\x00\x01\x02ab\x00\x02\x03cde\x00\x00\x00\x03"},
		{aMove(2, "", 1, "x", 1000000), "\x03\x00\x02\x00\x00\x01\x01x\x00\x0f\x42\x40"},
		{aMove(772, "y", 65535, "", 999999), "\x03\x03\x04\x01y\xff\xff\x00\x00\x0f\x42\x3f"},
		{aMove(65535, longer, 256, long, 1), "\x03\xff\xff\xff" + longer + "\x01\x00\xfe" + long + "\x00\x00\x00\x01"},
		{aMove(65279, long, 255, longer, 256), "\x03\xfe\xff\xfe" + long + "\x00\xff\xff" + longer + "\x00\x00\x01\x00"},
	}
}

func expectBytes(t *testing.T, d deed.Deed, want string) {
	t.Helper()
	if b, err := deed.Encode(d); b != want || err != api.OK {
		t.Errorf("Encode(%#v) = % x, %d; want % x", d, b, err, want)
	}
}

func expectNoBytes(t *testing.T, d deed.Deed) {
	t.Helper()
	if b, err := deed.Encode(d); b != "" || err != api.ErrArg {
		t.Errorf("Encode(%#v) = % x, %d; want %d", d, b, err, api.ErrArg)
	}
}

func expectDeed(t *testing.T, b string, want deed.Deed) {
	t.Helper()
	if d, err := deed.Decode(b); d != want || err != api.OK {
		t.Errorf("Decode(% x) = %#v, %d; want %#v", b, d, err, want)
	}
}

func expectNoDeed(t *testing.T, b string) {
	t.Helper()
	if d, err := deed.Decode(b); d != (deed.Deed{}) || err != api.ErrForm {
		t.Errorf("Decode(% x) = %#v, %d; want %d", b, d, err, api.ErrForm)
	}
}

// P11.1: the bytes of each kind, and the deeds that have them.
func TestTable(t *testing.T) {
	for _, w := range table() {
		expectBytes(t, w.d, w.b)
		expectDeed(t, w.b, w.d)
	}
}

// P11.1, R7: one call leaves nothing that the next one finds.
func TestAgain(t *testing.T) {
	for _, w := range table() {
		for _, other := range table() {
			expectNoBytes(t, deed.Deed{Kind: 4, Name: other.d.Name})
			expectBytes(t, w.d, w.b)
			expectNoDeed(t, other.b[1:]+other.b)
			expectDeed(t, w.b, w.d)
			expectBytes(t, other.d, other.b)
			expectDeed(t, other.b, other.d)
		}
	}
}
