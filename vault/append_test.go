package vault_test

import (
	"slices"
	"testing"

	"toponym/api"
	"toponym/sector"
	"toponym/vault"
)

// expectNoAppend is for what goes wrong, but not by power.
func expectNoAppend(t *testing.T, d *sector.Device, v *vault.Vault, record string, want api.Errno) {
	t.Helper()
	sectors, pending := sectorsOf(d), d.Pending()
	room, image, records := v.Room(), v.Image(), v.Records()
	if err := v.Append(record); err != want {
		t.Errorf("Append(%d bytes) = %d; want %d", len(record), err, want)
	}
	expectSectors(t, d, sectors)
	expectPending(t, d, pending)
	expectVault(t, v, room, image, records...)
}

// fresh is a vault of nothing but an image.
func fresh(t *testing.T, size int, image string) (*sector.Device, *vault.Vault) {
	t.Helper()
	d := sector.New(size)
	format(t, d, image)
	return d, open(t, d)
}

// P8.2: record behind record, each in its frames, till the last one is taken.
func TestAppend(t *testing.T) {
	for _, size := range []int{24, 25} {
		d, v := fresh(t, size, text(9, 70))
		var records []string
		room := 9
		for n, length := range []int{1, 62, 63, 124, 125} {
			records = append(records, text(n, length))
			add(t, d, v, records[n])
			room -= len(frames(records[n]))
			expectVault(t, v, room, text(9, 70), records...)
		}
		want := spread(size, of(1, append([]string{text(9, 70)}, records...)...), of(0))
		if size%2 == 1 {
			want[size-1] = noughts()
		}
		expectSectors(t, d, want)
		expectVault(t, open(t, d), 0, text(9, 70), records...)
	}
}

// P8.2: a record of the last frame, of all that are left, and of one more.
func TestAppendFull(t *testing.T) {
	for room := range 6 {
		most := room * 62
		d, v := fresh(t, 2*(room+2), "i")
		expectNoAppend(t, d, v, text(1, most+1), api.ErrFull)
		expectNoAppend(t, d, v, text(1, most+62), api.ErrFull)
		expectNoAppend(t, d, v, text(1, api.MaxImage), api.ErrFull)
		if room == 0 {
			continue
		}
		add(t, d, v, text(1, most))
		expectVault(t, v, 0, "i", text(1, most))
		expectNoAppend(t, d, v, "a", api.ErrFull)
		sync(t, d, v)
		expectVault(t, open(t, d), 0, "i", text(1, most))

		d, v = fresh(t, 2*(room+2), "i")
		for n := range room {
			expectNoAppend(t, d, v, text(n, (room-n)*62+1), api.ErrFull)
			add(t, d, v, text(n, 62))
		}
		expectNoAppend(t, d, v, "a", api.ErrFull)
	}
}

// P8.2: no bytes, and more than MaxImage, are told ahead of what has no room.
func TestAppendLong(t *testing.T) {
	for _, size := range []int{4, 6, 4096} {
		d, v := fresh(t, size, "i")
		expectNoAppend(t, d, v, "", api.ErrLong)
		expectNoAppend(t, d, v, text(1, api.MaxImage+1), api.ErrLong)
		expectNoAppend(t, d, v, text(1, 1<<16+1), api.ErrLong)
		expectNoAppend(t, d, v, text(1, 1<<20), api.ErrLong)
	}
	d, v := fresh(t, 4096, "i")
	add(t, d, v, text(1, api.MaxImage))
	add(t, d, v, text(2, api.MaxImage))
	expectNoAppend(t, d, v, text(3, api.MaxImage), api.ErrFull)
	expectVault(t, v, 2046-2*968, "i", text(1, api.MaxImage), text(2, api.MaxImage))
	expectVault(t, open(t, d), 2046-2*968, "i", text(1, api.MaxImage), text(2, api.MaxImage))
}

// P8.2: a record may have any bytes, and be the same as others.
func TestAppendBytes(t *testing.T) {
	records := []string{"\x00", "\x00", "i", "i", noughts(), text(1, 61) + "\x00\x00", "\xff/\n"}
	d, v := fresh(t, 30, "i")
	for _, record := range records {
		add(t, d, v, record)
	}
	expectVault(t, v, 13-9, "i", records...)
	expectVault(t, open(t, d), 13-9, "i", records...)
}

// P8.2: an Append isn't flushed: all of it may be lost, or be kept.
func TestAppendPending(t *testing.T) {
	d, v := fresh(t, 12, "i")
	add(t, d, v, text(1, 63))
	expectPending(t, d, 2)
	d.Restart()
	expectVault(t, open(t, d), 4, "i")

	d, v = fresh(t, 12, "i")
	add(t, d, v, text(1, 63))
	d.Restart(0, 1)
	expectVault(t, open(t, d), 2, "i", text(1, 63))

	d, v = fresh(t, 12, "i")
	add(t, d, v, text(1, 63))
	d.Restart(1)
	expectVault(t, open(t, d), 4, "i")
	expectSectors(t, d, spread(12, of(1, "i"), of(0)))
}

// P8.2: Sync flushes all that is pending, by whomever it was written.
func TestSync(t *testing.T) {
	d, v := fresh(t, 13, "i")
	sync(t, d, v)
	add(t, d, v, text(1, 63))
	add(t, d, v, "b")
	put(t, d, 12, mark(12))
	expectPending(t, d, 4)
	sync(t, d, v)
	expectVault(t, v, 1, "i", text(1, 63), "b")
	d.Restart()
	expectSectors(t, d, spread(13, of(1, "i", text(1, 63), "b"), of(0)))
	expectVault(t, open(t, d), 1, "i", text(1, 63), "b")
}

// P8.2: an opened vault is gone on with where the other one ended.
func TestAppendReopened(t *testing.T) {
	d := sector.New(16)
	format(t, d, "i")
	var records []string
	for n := range 6 {
		v := open(t, d)
		expectVault(t, v, 6-n, "i", records...)
		add(t, d, v, text(n, 50))
		records = append(records, text(n, 50))
		expectVault(t, v, 5-n, "i", records...)
		if n%2 == 0 {
			sync(t, d, v)
		}
	}
	expectVault(t, open(t, d), 0, "i", records...)
}

// P8.2, R5: who changes what Records answers changes no vault, nor what it
// answered to others; nor does an Append change that.
func TestRecordsAreNew(t *testing.T) {
	d, v := fresh(t, 20, "i")
	add(t, d, v, "a")
	add(t, d, v, "b")
	for _, v := range []*vault.Vault{v, open(t, d)} {
		room, records := v.Room(), slices.Clone(v.Records())
		l, other := v.Records(), v.Records()
		l[0], l[1] = "x", "y"
		l = append(l[:1], "z")
		expectVault(t, v, room, "i", records...)
		if !slices.Equal(other, records) {
			t.Errorf("Records() = %q behind a change of another's", other)
		}
		add(t, d, v, "c")
		expectVault(t, v, room-1, "i", append(records, "c")...)
		if !slices.Equal(other, records) || !slices.Equal(l, []string{"x", "z"}) {
			t.Errorf("Records() = %q and %q behind an Append", other, l)
		}
		longer := append(v.Records(), "mine")
		add(t, d, v, "d")
		if longer[len(longer)-1] != "mine" {
			t.Errorf("an Append is in the spare room of what was answered: %q", longer)
		}
	}
}
