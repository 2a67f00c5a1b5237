package vault_test

import (
	"encoding/binary"
	"slices"
	"strings"
	"testing"

	"toponym/api"
	"toponym/sector"
	"toponym/vault"
)

// text is n bytes that differ from place to place, and by seed; none of them is
// 0.
func text(seed, n int) string {
	b := make([]byte, n)
	for at := range b {
		b[at] = byte(1 + (seed*37+at*11+at/62*5)%255)
	}
	return string(b)
}

// drawer picks numbers from 0 on by a small sum.
func drawer() func(below int) int {
	state := uint32(1)
	return func(below int) int {
		state = state*1664525 + 1013904223
		return int(state>>16) % below
	}
}

func noughts() string {
	return strings.Repeat("\x00", api.Sector)
}

// mark is what stands in a sector that was never a vault's.
func mark(i int) string {
	return strings.Repeat(string([]byte{byte(0xa0 + i%7), byte(i)}), api.Sector/2)
}

// head is that of an epoch; of 0 that of none.
func head(epoch uint64) string {
	if epoch == 0 {
		return noughts()
	}
	b := make([]byte, api.Sector)
	binary.BigEndian.PutUint64(b, epoch)
	binary.BigEndian.PutUint64(b[8:], ^epoch)
	return string(b)
}

// framed is a frame's bytes, of so many that are left, and noughts behind what
// is given of these.
func framed(left int, b string) string {
	return string([]byte{byte(left / 256), byte(left % 256)}) + b + strings.Repeat("\x00", 62-len(b))
}

// frames are what these records' frames should be, one by one.
func frames(records ...string) []string {
	var l []string
	for _, record := range records {
		for len(record) > 62 {
			l = append(l, framed(len(record), record[:62]))
			record = record[62:]
		}
		l = append(l, framed(len(record), record))
	}
	return l
}

// held is a bank's head, and its frames from 1 on; behind these are noughts.
type held struct {
	head   string
	frames []string
}

// of is a bank with these records.
func of(epoch uint64, records ...string) held {
	return held{head(epoch), frames(records...)}
}

// spread are a device's sectors with these banks; of an odd number the last one
// has a mark.
func spread(size int, first, second held) []string {
	l := slices.Repeat([]string{noughts()}, size)
	for i, b := range []held{first, second} {
		from := i * (size / 2)
		l[from] = b.head
		copy(l[from+1:from+size/2], b.frames)
	}
	if size%2 == 1 {
		l[size-1] = mark(size - 1)
	}
	return l
}

// with is a device of these sectors, flushed.
func with(t *testing.T, sectors []string) *sector.Device {
	t.Helper()
	d := sector.New(len(sectors))
	for i, b := range sectors {
		if b != noughts() {
			put(t, d, i, b)
		}
	}
	flush(t, d)
	return d
}

// marked is a device of marks, so that whatever should be written is seen.
func marked(t *testing.T, size int) *sector.Device {
	t.Helper()
	l := make([]string, size)
	for i := range l {
		l[i] = mark(i)
	}
	return with(t, l)
}

func put(t *testing.T, d *sector.Device, i int, b string) {
	t.Helper()
	if err := d.Put(i, b); err != api.OK {
		t.Fatalf("Put(%d) = %d", i, err)
	}
}

func flush(t *testing.T, d *sector.Device) {
	t.Helper()
	if err := d.Flush(); err != api.OK {
		t.Fatalf("Flush() = %d", err)
	}
}

// sectorsOf is nil where power is gone.
func sectorsOf(d *sector.Device) []string {
	l := make([]string, d.Size())
	for i := range l {
		b, err := d.Get(i)
		if err != api.OK {
			return nil
		}
		l[i] = b
	}
	return l
}

func expectSectors(t *testing.T, d *sector.Device, want []string) {
	t.Helper()
	l := sectorsOf(d)
	if len(l) != len(want) {
		t.Fatalf("%d sectors; want %d", len(l), len(want))
	}
	for i, b := range want {
		if l[i] != b {
			t.Errorf("sector %d: % x; want % x", i, l[i], b)
		}
	}
}

func expectPending(t *testing.T, d *sector.Device, want int) {
	t.Helper()
	if n := d.Pending(); n != want {
		t.Errorf("Pending() = %d; want %d", n, want)
	}
}

func expect(t *testing.T, what string, err, want api.Errno) {
	t.Helper()
	if err != want {
		t.Errorf("%s = %d; want %d", what, err, want)
	}
}

func format(t *testing.T, d *sector.Device, image string) {
	t.Helper()
	if err := vault.Format(d, image); err != api.OK {
		t.Fatalf("Format(%d sectors, %d bytes) = %d; want OK", d.Size(), len(image), err)
	}
}

func open(t *testing.T, d *sector.Device) *vault.Vault {
	t.Helper()
	v, err := vault.Open(d)
	if v == nil || err != api.OK {
		t.Fatalf("Open(%d sectors) = %v, %d; want a vault, OK", d.Size(), v, err)
	}
	return v
}

func expectNoOpen(t *testing.T, d *sector.Device, want api.Errno) {
	t.Helper()
	if v, err := vault.Open(d); v != nil || err != want {
		t.Errorf("Open(%d sectors) = %v, %d; want none, %d", d.Size(), v, err, want)
	}
}

// add appends where that must go right, and checks how many sectors that takes.
func add(t *testing.T, d *sector.Device, v *vault.Vault, record string) {
	t.Helper()
	pending, room, need := d.Pending(), v.Room(), len(frames(record))
	if err := v.Append(record); err != api.OK {
		t.Fatalf("Append(%d bytes) = %d; want OK", len(record), err)
	}
	expectPending(t, d, pending+need)
	if v.Room() != room-need {
		t.Errorf("Room() = %d; want %d", v.Room(), room-need)
	}
}

// sync checks that nothing is pending any more.
func sync(t *testing.T, d *sector.Device, v *vault.Vault) {
	t.Helper()
	if err := v.Sync(); err != api.OK {
		t.Fatalf("Sync() = %d; want OK", err)
	}
	expectPending(t, d, 0)
}

// renew checks that nothing is pending any more.
func renew(t *testing.T, d *sector.Device, v *vault.Vault, image string) {
	t.Helper()
	if err := v.Renew(image); err != api.OK {
		t.Fatalf("Renew(%d bytes) = %d; want OK", len(image), err)
	}
	expectPending(t, d, 0)
}

// expectVault is asked of vaults that aren't over.
func expectVault(t *testing.T, v *vault.Vault, room int, image string, records ...string) {
	t.Helper()
	expectKept(t, v, room, image, records...)
	if v.Over() {
		t.Error("Over() = true; want false")
	}
}

// expectOver is asked of vaults that are over: what they have stays.
func expectOver(t *testing.T, v *vault.Vault, room int, image string, records ...string) {
	t.Helper()
	expectKept(t, v, room, image, records...)
	if !v.Over() {
		t.Error("Over() = false; want true")
	}
}

func expectKept(t *testing.T, v *vault.Vault, room int, image string, records ...string) {
	t.Helper()
	if got := v.Image(); got != image {
		t.Errorf("Image() = %.80q (%d bytes); want %.80q (%d bytes)", got, len(got), image, len(image))
	}
	if got := v.Records(); !slices.Equal(got, records) {
		t.Errorf("Records() = %q; want %q", got, records)
	}
	if got := v.Room(); got != room {
		t.Errorf("Room() = %d; want %d", got, room)
	}
}

// P8.1, P8.2: the chapter's example.
func TestExample(t *testing.T) {
	d := sector.New(4)
	format(t, d, text(1, 62))
	v := open(t, d)
	expectVault(t, v, 0, text(1, 62))
	expect(t, "Append(a)", v.Append("a"), api.ErrFull)
}

// P8.2: a row of calls, from the vault's beginning on.
func TestVault(t *testing.T) {
	d := sector.New(12)
	format(t, d, "image")
	v := open(t, d)
	expectVault(t, v, 4, "image")
	add(t, d, v, "one")
	add(t, d, v, text(2, 100))
	expectVault(t, v, 1, "image", "one", text(2, 100))
	sync(t, d, v)
	expectVault(t, open(t, d), 1, "image", "one", text(2, 100))
	renew(t, d, v, text(3, 70))
	expectVault(t, v, 3, text(3, 70))
	add(t, d, v, "two")
	expectVault(t, v, 2, text(3, 70), "two")
	expectVault(t, open(t, d), 2, text(3, 70), "two")
	expectSectors(t, d, spread(12, of(1, "image", "one", text(2, 100)), of(2, text(3, 70), "two")))
}

// P8.2: vaults of different devices don't hang on one another.
func TestSideBySide(t *testing.T) {
	a, b := sector.New(8), sector.New(8)
	format(t, a, "a")
	format(t, b, "b")
	v, w := open(t, a), open(t, b)
	add(t, a, v, "one")
	expectVault(t, w, 2, "b")
	expectPending(t, b, 0)
	renew(t, b, w, "c")
	add(t, b, w, "two")
	expectVault(t, v, 1, "a", "one")
	expectPending(t, a, 1)
	a.Cut(0)
	expect(t, "Sync()", v.Sync(), api.ErrLost)
	expectOver(t, v, 1, "a", "one")
	expectVault(t, w, 1, "c", "two")
	sync(t, b, w)
}

// P8.2: a vault that nobody opened has nothing, and nothing can be done to it.
func TestZeroVault(t *testing.T) {
	var v vault.Vault
	expectOver(t, &v, 0, "")
	expect(t, "Append(a)", v.Append("a"), api.ErrLost)
	expect(t, "Append()", v.Append(""), api.ErrLost)
	expect(t, "Sync()", v.Sync(), api.ErrLost)
	expect(t, "Renew(a)", v.Renew("a"), api.ErrLost)
	expectOver(t, &v, 0, "")
}
