package vault_test

import (
	"math"
	"strconv"
	"testing"

	"toponym/api"
	"toponym/sector"
	"toponym/vault"
)

// expectNoRenew is for what goes wrong, but not by power.
func expectNoRenew(t *testing.T, d *sector.Device, v *vault.Vault, image string, want api.Errno) {
	t.Helper()
	sectors, pending := sectorsOf(d), d.Pending()
	room, old, records := v.Room(), v.Image(), v.Records()
	if err := v.Renew(image); err != want {
		t.Errorf("Renew(%d bytes) = %d; want %d", len(image), err, want)
	}
	expectSectors(t, d, sectors)
	expectPending(t, d, pending)
	expectVault(t, v, room, old, records...)
}

// P8.2: the other bank has the image, and nothing else, an epoch greater by
// one; the old one is as it was, and nothing is pending.
func TestRenew(t *testing.T) {
	junk := []string{mark(1), framed(1, "a"), noughts(), mark(2), mark(3)}
	for _, n := range []int{1, 61, 62, 63, 124, 125, 309, 310} {
		image := text(n, n)
		d := with(t, spread(13, of(1, "old", "a"), held{mark(5), junk}))
		v := open(t, d)
		add(t, d, v, "b")
		renew(t, d, v, image)
		expectVault(t, v, 5-len(frames(image)), image)
		want := spread(13, of(1, "old", "a", "b"), of(2, image))
		expectSectors(t, d, want)
		d.Restart()
		expectSectors(t, d, want)
		expectVault(t, open(t, d), 5-len(frames(image)), image)
	}
}

// P8.2: the banks change about, and the records with them.
func TestRenewInARow(t *testing.T) {
	d, v := fresh(t, 20, "image 0")
	banks := [2]held{of(1, "image 0"), of(0)}
	for n := range 12 {
		at := n % 2
		add(t, d, v, text(n, 100))
		add(t, d, v, "b")
		banks[at] = of(uint64(n)+1, v.Image(), text(n, 100), "b")
		image := text(100+n, 1+n*37%300)
		renew(t, d, v, image)
		banks[1-at] = of(uint64(n)+2, image)
		expectVault(t, v, 9-len(frames(image)), image)
		expectSectors(t, d, spread(20, banks[0], banks[1]))
		if n%3 == 0 {
			v = open(t, d)
			expectVault(t, v, 9-len(frames(image)), image)
		}
	}
}

// P8.2: as Format's: no bytes, and more than MaxImage, are told ahead of what
// has no room; an image may have all of the other bank's frames, whatever is
// left in this one.
func TestRenewFull(t *testing.T) {
	for _, size := range []int{4, 5, 6, 9, 20} {
		most := (size/2 - 1) * 62
		d, v := fresh(t, size, "i")
		expectNoRenew(t, d, v, "", api.ErrLong)
		expectNoRenew(t, d, v, text(1, api.MaxImage+1), api.ErrLong)
		expectNoRenew(t, d, v, text(1, most+1), api.ErrFull)
		expectNoRenew(t, d, v, text(1, api.MaxImage), api.ErrFull)
		if v.Room() > 0 {
			add(t, d, v, text(2, v.Room()*62))
			expectNoRenew(t, d, v, text(1, most+1), api.ErrFull)
		}
		renew(t, d, v, text(1, most))
		expectVault(t, v, 0, text(1, most))
		expectNoAppend(t, d, v, "a", api.ErrFull)
		renew(t, d, v, text(2, most))
		expectVault(t, v, 0, text(2, most))
		renew(t, d, v, "j")
		expectVault(t, v, size/2-2, "j")
		expectVault(t, open(t, d), size/2-2, "j")
	}
}

// P8.2: MaxImage bytes have 968 frames.
func TestRenewMaxImage(t *testing.T) {
	d, v := fresh(t, 1936, "i")
	expectNoRenew(t, d, v, text(1, api.MaxImage), api.ErrFull)
	d, v = fresh(t, 1938, "i")
	renew(t, d, v, text(1, api.MaxImage))
	expectVault(t, v, 0, text(1, api.MaxImage))
	expectNoRenew(t, d, v, text(1, api.MaxImage+1), api.ErrLong)
	expectNoRenew(t, d, v, "", api.ErrLong)
	expectVault(t, open(t, d), 0, text(1, api.MaxImage))
}

// P8.2: up to the epoch 2^63, from which on there is none to come; what is wrong
// with the image is told ahead of that.
func TestRenewEpochs(t *testing.T) {
	for _, epoch := range []uint64{1, 2, 254, 255, 256, 1<<32 - 1, 1<<62 + 5, 1<<63 - 2, 1<<63 - 1} {
		for _, at := range []int{0, 1} {
			banks := [2]held{of(epoch-1, "other"), of(epoch-1, "other")}
			banks[at] = of(epoch, "old", "a")
			d := with(t, spread(8, banks[0], banks[1]))
			v := open(t, d)
			renew(t, d, v, "new")
			banks[1-at] = of(epoch+1, "new")
			expectVault(t, v, 2, "new")
			expectSectors(t, d, spread(8, banks[0], banks[1]))
			expectVault(t, open(t, d), 2, "new")
		}
	}
	for _, epoch := range []uint64{1 << 63, 1<<63 + 1, math.MaxUint64 - 1, math.MaxUint64} {
		for _, banks := range [][2]held{{of(epoch, "old", "a"), of(0)}, {of(1, "other"), of(epoch, "old", "a")}, {of(epoch, "old", "a"), of(epoch, "other")}} {
			d := with(t, spread(8, banks[0], banks[1]))
			v := open(t, d)
			expectNoRenew(t, d, v, "new", api.ErrMany)
			expectNoRenew(t, d, v, text(1, 186), api.ErrMany)
			expectNoRenew(t, d, v, text(1, 187), api.ErrFull)
			expectNoRenew(t, d, v, text(1, api.MaxImage), api.ErrFull)
			expectNoRenew(t, d, v, text(1, api.MaxImage+1), api.ErrLong)
			expectNoRenew(t, d, v, "", api.ErrLong)
			add(t, d, v, "b")
			sync(t, d, v)
			expectVault(t, open(t, d), 0, "old", "a", "b")
		}
	}
}

// P8.2: the last epoch that a Renew may write is 2^63.
func TestRenewToTheLastEpoch(t *testing.T) {
	d := with(t, spread(8, of(1<<63-2, "old"), of(7)))
	v := open(t, d)
	renew(t, d, v, "one")
	renew(t, d, v, "two")
	expectSectors(t, d, spread(8, of(1<<63, "two"), of(1<<63-1, "one")))
	expectNoRenew(t, d, v, "three", api.ErrMany)
	v = open(t, d)
	expectVault(t, v, 2, "two")
	expectNoRenew(t, d, v, "three", api.ErrMany)
}

// P8.2: of equal epochs the first bank is the vault's, so that the second one is
// written.
func TestRenewOfEqualEpochs(t *testing.T) {
	d := with(t, spread(8, of(5, "first", "a"), of(5, "second", "b")))
	v := open(t, d)
	renew(t, d, v, "new")
	expectSectors(t, d, spread(8, of(5, "first", "a"), of(6, "new")))
	expectVault(t, open(t, d), 2, "new")
}

// P8.2: a Renew leaves nothing pending, of what was appended ahead, either; and
// behind it there are no records till others come.
func TestRenewThenAppend(t *testing.T) {
	d, v := fresh(t, 14, "i")
	for n := range 5 {
		for m := range 5 {
			add(t, d, v, strconv.Itoa(10*n+m))
		}
		expectPending(t, d, 5)
		renew(t, d, v, "i"+strconv.Itoa(n))
		expectVault(t, v, 5, "i"+strconv.Itoa(n))
		d.Restart()
		expectVault(t, open(t, d), 5, "i"+strconv.Itoa(n))
	}
}

// P8.2: the head first, then the wiped frames and the image, then the head, each
// ahead of a flush; the writes are counted by where power goes, and what is
// pending then is what came behind the last flush.
func TestRenewSteps(t *testing.T) {
	first, second := of(4, "old", "a"), held{head(3), []string{mark(1), noughts(), framed(1, "a"), mark(2)}}
	image := frames(text(1, 100))
	steps := []struct {
		at    int
		bytes string
	}{
		{6, noughts()},
		{7, noughts()}, {9, noughts()}, {10, noughts()}, {7, image[0]}, {8, image[1]},
		{6, head(5)},
	}
	pendings := []int{1, 2, 1, 2, 3, 4, 5, 1}
	want := spread(13, first, second)
	want[3] = frames("b")[0]
	for writes, pending := range pendings {
		d := with(t, spread(13, first, second))
		v := open(t, d)
		add(t, d, v, "b")
		d.Cut(writes)
		if writes > 0 {
			want[steps[writes-1].at] = steps[writes-1].bytes
		}
		expect(t, "Renew", v.Renew(text(1, 100)), api.ErrLost)
		expectOver(t, v, 2, "old", "a", "b")
		expectPending(t, d, pending)
		d.Restart(0, 1, 2, 3, 4, 5)
		expectSectors(t, d, want)
	}
	d := with(t, spread(13, first, second))
	v := open(t, d)
	d.Cut(len(pendings))
	renew(t, d, v, text(1, 100))
}
