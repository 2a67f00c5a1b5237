package store_test

import (
	"testing"

	"toponym/api"
	"toponym/sector"
	"toponym/store"
	"toponym/tree"
	"toponym/vault"
)

// formatted are the sectors behind a Format.
func formatted(size int) []string {
	return spread(size, of(1, rootAlone), of(0))
}

// P13.1: devices of every size from none up: what was formatted has, mounted, a
// root alone, the room that the vault has, and isn't over.
func TestFormat(t *testing.T) {
	for size := 0; size <= api.MaxSectors; size++ {
		d := sector.New(size)
		if size < 4 {
			expect(t, "Format", store.Format(d), api.ErrArg)
			expectNoMount(t, d, api.ErrArg)
			continue
		}
		format(t, d)
		s := mount(t, d)
		expectStore(t, s, size/2-2, tree.New())
		v, err := vault.Open(d)
		if err != api.OK || v.Image() != rootAlone || len(v.Records()) != 0 || v.Room() != s.Room() {
			t.Errorf("%d sectors: the vault has %q, %q", size, v.Image(), v.Records())
		}
		if t.Failed() {
			t.FailNow()
		}
	}
}

// P13.1: whatever stood there is gone; all is safe.
func TestFormatOfAnything(t *testing.T) {
	for size := 4; size < 40; size++ {
		d := marked(t, size)
		format(t, d)
		d.Restart()
		expectSectors(t, d, formatted(size))
		expectMounted(t, d, size/2-2, tree.New())
	}
}

// P13.1: of a store, also one with deeds that are pending, and one whose second
// bank is its vault's.
func TestFormatOfAStore(t *testing.T) {
	for count := range 30 {
		d, s := fresh(t, 25)
		for n := range count {
			if _, err := s.Do(aLink(0, named(n, 2), false, 0)); err != api.OK {
				t.Fatalf("Do = %d", err)
			}
		}
		if count%2 == 0 {
			sync(t, d, s)
		}
		d.Put(24, mark(24))
		format(t, d)
		d.Restart()
		expectSectors(t, d, formatted(25))
		expectMounted(t, d, 10, tree.New())
	}
}

// P13.1: too small a device is left as it is.
func TestFormatTooSmall(t *testing.T) {
	for size := range 4 {
		d := marked(t, size)
		l := sectorsOf(d)
		if size > 0 {
			l[0] = mark(50)
			d.Put(0, mark(50))
		}
		pending := d.Pending()
		expect(t, "Format", store.Format(d), api.ErrArg)
		expectSectors(t, d, l)
		expectPending(t, d, pending)
		d.Cut(0)
		expect(t, "Format", store.Format(d), api.ErrLost)
	}
}

// P13.1: power that is gone, or goes on the way.
func TestFormatLost(t *testing.T) {
	for _, size := range []int{0, 1, 3, 4, 5, 12, 100} {
		d := marked(t, size)
		d.Cut(0)
		expect(t, "Format", store.Format(d), api.ErrLost)
		expectPending(t, d, 0)
		d.Restart()
		expectSectors(t, d, sectorsOf(marked(t, size)))
	}
	const all = 2 + 8 + 1 + 1
	for writes := range all + 1 {
		d := marked(t, 10)
		d.Cut(writes)
		expect(t, "Format", store.Format(d), api.ErrLost)
		expectPending(t, d, []int{0, 1, 2, 1, 2, 3, 4, 5, 6, 7, 8, 9, 1}[writes])
	}
	d := marked(t, 10)
	d.Cut(all + 1)
	format(t, d)
}

// P13.1: the least device has room for the image alone.
func TestFormatLeast(t *testing.T) {
	for _, size := range []int{4, 5} {
		d, s := fresh(t, size)
		expectStore(t, s, 0, tree.New())
		expectNotDone(t, d, s, anUnlink(0, "a", false), api.ErrNone)
		for range 3 {
			if n, err := s.Do(aLink(0, "a", false, 0)); n != 0 || err != api.ErrFull {
				t.Errorf("Do = %d, %d; want %d", n, err, api.ErrFull)
			}
			expectStore(t, s, 0, tree.New())
			expectMounted(t, d, 0, tree.New())
		}
		sync(t, d, s)
	}
}
