package vault_test

import (
	"math"
	"slices"
	"testing"

	"toponym/api"
	"toponym/sector"
)

// P8.1: devices of noughts, of marks, and too small ones have no vault, and
// nothing is written there.
func TestOpenNone(t *testing.T) {
	for size := range 12 {
		want := api.ErrForm
		if size < 4 {
			want = api.ErrArg
		}
		for _, d := range []*sector.Device{sector.New(size), marked(t, size)} {
			l := sectorsOf(d)
			expectNoOpen(t, d, want)
			expectSectors(t, d, l)
			expectPending(t, d, 0)
			d.Cut(0)
			expectNoOpen(t, d, api.ErrLost)
		}
	}
	expectNoOpen(t, sector.New(api.MaxSectors), api.ErrForm)
}

// P8.1: a device of three sectors is too small, whatever stands there.
func TestOpenTooSmall(t *testing.T) {
	expectNoOpen(t, with(t, []string{head(1), frames("a")[0], head(2)}), api.ErrArg)
	expectNoOpen(t, with(t, []string{head(1), head(2)}), api.ErrArg)
	expectNoOpen(t, with(t, []string{head(1)}), api.ErrArg)
}

// torn is no head, by one byte.
func torn(epoch uint64, at int) string {
	b := []byte(head(epoch))
	b[at] ^= 1
	return string(b)
}

// P8.1: a head that isn't whole is none's, whatever its bank has.
func TestOpenNoHead(t *testing.T) {
	full := frames("image", "record")
	for at := range api.Sector {
		bad := held{torn(7, at), full}
		d := with(t, spread(8, bad, bad))
		l := sectorsOf(d)
		expectNoOpen(t, d, api.ErrForm)
		expectSectors(t, d, l)
		expectPending(t, d, 0)
		expectVault(t, open(t, with(t, spread(8, bad, of(1, "second")))), 2, "second")
		expectVault(t, open(t, with(t, spread(8, of(1, "first"), bad))), 2, "first")
	}
	expectNoOpen(t, with(t, spread(8, of(0, "image"), of(0, "image"))), api.ErrForm)
	expectNoOpen(t, with(t, spread(9, of(0, "image"), held{mark(1), full})), api.ErrForm)
}

// P8.1: the bank of the greater epoch, the first one of equal ones.
func TestOpenGreater(t *testing.T) {
	for _, x := range []struct {
		first, second uint64
		want          string
	}{
		{1, 0, "first"},
		{0, 1, "second"},
		{1, 1, "first"},
		{2, 1, "first"},
		{1, 2, "second"},
		{3, 2, "first"},
		{9, 10, "second"},
		{255, 256, "second"},
		{256, 255, "first"},
		{1<<32 - 1, 1 << 32, "second"},
		{1 << 32, 1, "first"},
		{1<<63 - 1, 1 << 63, "second"},
		{1 << 63, 1<<63 - 1, "first"},
		{1 << 63, 1 << 63, "first"},
		{math.MaxUint64, math.MaxUint64 - 1, "first"},
		{math.MaxUint64 - 1, math.MaxUint64, "second"},
		{math.MaxUint64, math.MaxUint64, "first"},
		{1, math.MaxUint64, "second"},
		{math.MaxUint64, 1, "first"},
		{math.MaxUint64, 0, "first"},
		{0, math.MaxUint64, "second"},
	} {
		for _, size := range []int{8, 9} {
			d := with(t, spread(size, of(x.first, "first", "a"), of(x.second, "second", "a")))
			l := sectorsOf(d)
			expectVault(t, open(t, d), 1, x.want, "a")
			expectSectors(t, d, l)
			expectPending(t, d, 0)
		}
	}
}

// P8.1: where no record stands in its bank there is no vault, though one stands
// in the other.
func TestOpenNoRecord(t *testing.T) {
	for _, none := range [][]string{
		nil,
		{noughts(), framed(1, "a")},
		{framed(1, "ab")},
		{framed(63, text(1, 62))},
		{framed(63, text(1, 62)), framed(2, "a")},
		{framed(0, "a")},
		{framed(api.MaxImage+1, text(1, 62))},
		{framed(187, text(1, 62)), framed(125, text(2, 62)), framed(63, text(3, 62))},
	} {
		for _, d := range []*sector.Device{
			with(t, spread(8, held{head(2), none}, of(1, "stands"))),
			with(t, spread(8, held{head(1), none}, of(1, "stands"))),
			with(t, spread(8, of(1, "stands"), held{head(2), none})),
			with(t, spread(8, held{head(1), none}, of(0, "stands"))),
		} {
			l := sectorsOf(d)
			expectNoOpen(t, d, api.ErrForm)
			expectSectors(t, d, l)
			expectPending(t, d, 0)
		}
		expectVault(t, open(t, with(t, spread(8, held{head(1), none}, of(2, "stands")))), 2, "stands")
	}
}

// P8.1: what stands behind the end is wiped, in its own bank alone, and that is
// flushed.
func TestOpenWipes(t *testing.T) {
	rest := []string{noughts(), framed(63, text(1, 62)), framed(1, "a"), mark(3)}
	for _, records := range [][]string{{"i"}, {"i", "a"}, {text(1, 100), "b"}, {text(1, 63), text(2, 62), text(3, 63)}} {
		stand := frames(records...)
		dirty, clean := held{head(5), append(slices.Clone(stand), rest...)}, of(5, records...)
		kept := held{head(4), append(frames("other"), rest...)}
		room := 10 - len(stand)
		for _, x := range [][2][]string{
			{spread(22, dirty, kept), spread(22, clean, kept)},
			{spread(22, kept, dirty), spread(22, kept, clean)},
			{spread(23, dirty, kept), spread(23, clean, kept)},
			{spread(23, kept, dirty), spread(23, kept, clean)},
		} {
			d := with(t, x[0])
			v := open(t, d)
			expectVault(t, v, room, records[0], records[1:]...)
			expectPending(t, d, 0)
			expectSectors(t, d, x[1])
			d.Restart()
			expectSectors(t, d, x[1])
			expectVault(t, open(t, d), room, records[0], records[1:]...)
		}
	}
}

// P8.1: only what isn't noughts is written: power that goes behind so many
// writes is met by the flush, and by what is read.
func TestOpenWrites(t *testing.T) {
	stand := append(frames("image"), mark(1), noughts(), mark(2), mark(3))
	for writes := range 5 {
		d := with(t, spread(16, held{head(1), stand}, of(0)))
		d.Cut(writes)
		if writes <= 3 {
			expectNoOpen(t, d, api.ErrLost)
			expectPending(t, d, writes)
			continue
		}
		expectVault(t, open(t, d), 6, "image")
		expectPending(t, d, 0)
	}
	d := with(t, spread(16, of(1, "image"), of(0)))
	d.Cut(1)
	expectVault(t, open(t, d), 6, "image")
	d.Cut(0)
	expectNoOpen(t, d, api.ErrLost)
}

// P8.1: whatever is pending is flushed, a record that was appended, too.
func TestOpenFlushes(t *testing.T) {
	d := sector.New(10)
	format(t, d, "image")
	add(t, d, open(t, d), text(1, 90))
	expectPending(t, d, 2)
	expectVault(t, open(t, d), 1, "image", text(1, 90))
	expectPending(t, d, 0)
	d.Restart()
	expectVault(t, open(t, d), 1, "image", text(1, 90))
}

// P8.1: what stands is told as bytes, noughts too, in a bank that it fills as in
// one that it doesn't.
func TestOpenBytes(t *testing.T) {
	for _, size := range []int{12, 13, 14, 40} {
		records := []string{"\x00", "\x00\x00a", text(1, 61) + "\x00\x00", "\x00"}
		d := with(t, spread(size, of(0), of(3, records...)))
		expectVault(t, open(t, d), size/2-6, records[0], records[1:]...)
	}
}

// P8.1: a record of MaxImage bytes may stand beside others.
func TestOpenLong(t *testing.T) {
	image, record := text(1, api.MaxImage), text(2, api.MaxImage)
	d := with(t, spread(4096, of(1, image, record, "a"), of(0)))
	expectVault(t, open(t, d), 2047-2*968-1, image, record, "a")
}
