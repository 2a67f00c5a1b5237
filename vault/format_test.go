package vault_test

import (
	"testing"

	"toponym/api"
	"toponym/sector"
	"toponym/vault"
)

// expectNoFormat is for what goes wrong ahead of the first write: what is
// pending stays so, too.
func expectNoFormat(t *testing.T, d *sector.Device, image string, want api.Errno) {
	t.Helper()
	sectors, pending := sectorsOf(d), d.Pending()
	if err := vault.Format(d, image); err != want {
		t.Errorf("Format(%d sectors, %d bytes) = %d; want %d", d.Size(), len(image), err, want)
	}
	expectSectors(t, d, sectors)
	expectPending(t, d, pending)
}

// P8.1: a device of less than four sectors is too small, of whatever image.
func TestFormatTooSmall(t *testing.T) {
	for size := range 4 {
		d := marked(t, size)
		if size > 0 {
			put(t, d, 0, framed(1, "a"))
		}
		for _, n := range []int{0, 1, 62, 63, api.MaxImage, api.MaxImage + 1} {
			expectNoFormat(t, d, text(1, n), api.ErrArg)
		}
		d.Cut(0)
		expect(t, "Format", vault.Format(d, "a"), api.ErrLost)
		expect(t, "Format", vault.Format(d, ""), api.ErrLost)
	}
}

// expectFormatted looks at each sector, and at nothing being lost by a restart.
func expectFormatted(t *testing.T, d *sector.Device, image string) {
	t.Helper()
	format(t, d, image)
	expectPending(t, d, 0)
	d.Restart()
	expectSectors(t, d, spread(d.Size(), of(1, image), of(0)))
	expectVault(t, open(t, d), d.Size()/2-1-len(frames(image)), image)
	expectPending(t, d, 0)
}

// P8.1: of four sectors on, of an odd number, and of many: whatever stood
// there, only the head and the image stand there behind it; the sector that is
// left over is left as it is.
func TestFormat(t *testing.T) {
	for _, size := range []int{4, 5, 6, 7, 8, 9, 10, 11, 64, 65, 1937, 1938, 1939, 4095, 4096} {
		for _, n := range []int{1, 2, 61, 62, 63, 64, 124, 125, 1000} {
			image := text(size, n)
			if len(frames(image)) > size/2-1 {
				expectNoFormat(t, marked(t, size), image, api.ErrFull)
				continue
			}
			expectFormatted(t, marked(t, size), image)
		}
	}
}

// P8.1: an image that just fills a bank's frames, and one of a byte more.
func TestFormatFull(t *testing.T) {
	for _, size := range []int{4, 5, 6, 7, 8, 9, 20, 21, 100, 1936, 1937} {
		most := (size/2 - 1) * 62
		expectFormatted(t, marked(t, size), text(1, most))
		expectFormatted(t, marked(t, size), text(1, most-1))
		expectFormatted(t, marked(t, size), text(1, most-61))
		expectNoFormat(t, marked(t, size), text(1, most+1), api.ErrFull)
		expectNoFormat(t, marked(t, size), text(1, api.MaxImage), api.ErrFull)
	}
}

// P8.1: MaxImage bytes have 968 frames.
func TestFormatMaxImage(t *testing.T) {
	expectNoFormat(t, marked(t, 1936), text(1, api.MaxImage), api.ErrFull)
	expectNoFormat(t, marked(t, 1937), text(1, api.MaxImage), api.ErrFull)
	expectFormatted(t, marked(t, 1938), text(1, api.MaxImage))
	expectFormatted(t, marked(t, 1939), text(1, api.MaxImage))
	expectFormatted(t, marked(t, 4096), text(1, api.MaxImage))
	expectFormatted(t, marked(t, 4096), text(1, api.MaxImage-1))
}

// P8.1: an image of no bytes, or of more than MaxImage, is told ahead of what
// has no room.
func TestFormatLong(t *testing.T) {
	for _, size := range []int{4, 5, 8, 1938, 4096} {
		d := marked(t, size)
		put(t, d, 1, mark(50))
		expectNoFormat(t, d, "", api.ErrLong)
		expectNoFormat(t, d, text(1, api.MaxImage+1), api.ErrLong)
		expectNoFormat(t, d, text(1, api.MaxImage+62), api.ErrLong)
		expectNoFormat(t, d, text(1, 1<<16+1), api.ErrLong)
	}
}

// P8.1: an image may have any bytes.
func TestFormatBytes(t *testing.T) {
	for _, image := range []string{"\x00", "\x00\x00\x00", "a\x00", noughts(), text(1, 61) + "\x00\x00", "\xff\xfe/."} {
		expectFormatted(t, marked(t, 10), image)
	}
}

// P8.1: Format of a vault, whose epochs and records are gone then, and what was
// pending with them.
func TestFormatAgain(t *testing.T) {
	d := sector.New(13)
	put(t, d, 12, mark(12))
	format(t, d, "old")
	v := open(t, d)
	for _, image := range []string{"a", "b", "c"} {
		add(t, d, v, text(1, 100))
		renew(t, d, v, image)
	}
	add(t, d, v, "pending")
	expectFormatted(t, d, "new")
	expectFormatted(t, d, "new")
	expectFormatted(t, d, text(2, 150))
}

// P8.1: power that is gone is told ahead of all else.
func TestFormatLost(t *testing.T) {
	for _, size := range []int{0, 3, 4, 5, 100} {
		for _, n := range []int{0, 1, 62, 63, 62 * 50, api.MaxImage + 1} {
			d := marked(t, size)
			d.Cut(0)
			expect(t, "Format", vault.Format(d, text(1, n)), api.ErrLost)
			expectPending(t, d, 0)
		}
	}
}

// P8.1: heads first, both of them, then the wiped frames, the image, and the
// head, each ahead of a flush of its own; the writes are counted by where power
// goes, and what is pending then is what came behind the last flush.
func TestFormatSteps(t *testing.T) {
	pendings := []int{0, 1, 2}
	for n := 1; n <= 9; n++ {
		pendings = append(pendings, n)
	}
	pendings = append(pendings, 1)
	for writes, pending := range pendings {
		d := marked(t, 9)
		d.Cut(writes)
		expect(t, "Format", vault.Format(d, text(1, 150)), api.ErrLost)
		expectPending(t, d, pending)
		d.Restart(0, 1, 2, 3, 4, 5, 6, 7, 8, 9)
		expectSectors(t, d, formatting(t, writes))
	}
	d := marked(t, 9)
	d.Cut(len(pendings))
	format(t, d, text(1, 150))
}

// formatting is a device of nine sectors behind so many of Format's writes.
func formatting(t *testing.T, writes int) []string {
	t.Helper()
	l := sectorsOf(marked(t, 9))
	image := frames(text(1, 150))
	steps := []struct {
		at    int
		bytes string
	}{
		{0, noughts()}, {4, noughts()},
		{1, noughts()}, {2, noughts()}, {3, noughts()}, {5, noughts()}, {6, noughts()}, {7, noughts()},
		{1, image[0]}, {2, image[1]}, {3, image[2]},
		{0, head(1)},
	}
	for _, s := range steps[:writes] {
		l[s.at] = s.bytes
	}
	return l
}
