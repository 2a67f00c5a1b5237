package store_test

import (
	"testing"

	"toponym/api"
	"toponym/deed"
	"toponym/sector"
	"toponym/store"
	"toponym/vault"
)

// working is a call of a store's that may meet lost power.
type working struct {
	name string
	do   func(s *store.Store) api.Errno
}

func doing(name string, d deed.Deed) working {
	return working{"Do of " + name, func(s *store.Store) api.Errno {
		n, err := s.Do(d)
		if n != 0 && err != api.OK {
			panic("a number beside an error")
		}
		return err
	}}
}

// workings would go right otherwise, on the sample, or have no room.
func workings() []working {
	return []working{
		doing("a link", aLink(3, "n", true, 0)),
		doing("a link of five frames", aLink(3, named(0, 255), true, 0)),
		doing("an unlink", anUnlink(0, "b", false)),
		doing("a move", aMove(0, "b", 3, "b", 0)),
		{"Sync", func(s *store.Store) api.Errno { return s.Sync() }},
	}
}

// P13.2: where power is gone each call that needs it is ErrLost, ahead of what
// has no room, too, and the store is over; what it has is told on.
func TestLost(t *testing.T) {
	for _, w := range workings() {
		for room := range 4 {
			d, s := started(t, 2*(10+room), sample()...)
			want := behind(sample()...)
			expectStore(t, s, room, want)
			d.Cut(0)
			expect(t, w.name, w.do(s), api.ErrLost)
			expectOver(t, s, room, want)
			expectPending(t, d, 0)
			expectNoMount(t, d, api.ErrLost)
			d.Restart()
			expectOver(t, s, room, want)
			expectMounted(t, d, room, want)
		}
	}
}

// P13.2: a store that is over stays so behind a restart, and touches the device
// no more; one that is mounted then goes on.
func TestOverStays(t *testing.T) {
	for _, first := range workings() {
		d, s := started(t, 60, sample()...)
		do(t, d, s, aLink(3, "m", true, 0), 9)
		want := behind(append(sample(), aLink(3, "m", true, 0))...)
		d.Cut(0)
		expect(t, first.name, first.do(s), api.ErrLost)
		d.Restart(0)
		sectors := sectorsOf(d)
		for _, w := range workings() {
			expect(t, w.name+" behind a restart", w.do(s), api.ErrLost)
			expectOver(t, s, 19, want)
		}
		expectSectors(t, d, sectors)
		expectPending(t, d, 0)
		other := mount(t, d)
		expectStore(t, other, 19, want)
		do(t, d, other, aLink(3, "o", true, 0), 10)
		for _, w := range workings() {
			expect(t, w.name+" behind another's Mount", w.do(s), api.ErrLost)
		}
		expectPending(t, d, 1)
		expectOver(t, s, 19, want)
		sync(t, d, other)
	}
}

// P13.2: who only tells what it has meets no lost power, nor does a deed that
// can't be done: the store is over with the call that does.
func TestToldWithoutPower(t *testing.T) {
	d, s := started(t, 60, sample()...)
	want := behind(sample()...)
	d.Cut(0)
	expectStore(t, s, 20, want)
	for _, w := range append(undoable(), shapeless()...) {
		if n, err := s.Do(w.d); n != 0 || err != w.want {
			t.Errorf("Do(%#v) = %d, %d; want 0, %d", w.d, n, err, w.want)
		}
		expectStore(t, s, 20, want)
	}
	expect(t, "Sync", s.Sync(), api.ErrLost)
	expectOver(t, s, 20, want)
}

// P13.2: a deed whose last frame was the last write that was left is done; one
// of a frame more isn't, whatever is kept.
func TestDoLost(t *testing.T) {
	for need := 1; need <= 5; need++ {
		one := sized(1, min(62*need, 264))
		d, s := fresh(t, 20)
		d.Cut(need)
		if n, err := s.Do(one); n != 1 || err != api.OK {
			t.Errorf("Do of %d frames = %d, %d, where as many writes are left", need, n, err)
		}
		expectStore(t, s, 8-need, behind(one))
		expect(t, "Sync", s.Sync(), api.ErrLost)
		expectOver(t, s, 8-need, behind(one))
		expectPending(t, d, need)
		d.Restart(0, 1, 2, 3, 4)
		expectMounted(t, d, 8-need, behind(one))

		d, s = fresh(t, 20)
		d.Cut(need - 1)
		if n, err := s.Do(one); n != 0 || err != api.ErrLost {
			t.Errorf("Do of %d frames = %d, %d, where a write less is left", need, n, err)
		}
		expectOver(t, s, 8, behind())
		expectPending(t, d, need-1)
		d.Restart(0, 1, 2, 3, 4)
		expectMounted(t, d, 8, behind())
	}
}

// P13.2: power that goes at each write of a renewal, and of the deed behind it:
// the tree is as it was, and the deed is done with the last write alone.
func TestRenewalLost(t *testing.T) {
	const shut, imaged, signed, last = 1, 1 + 9 + 3, 1 + 9 + 3 + 1, 1 + 9 + 3 + 1 + 2
	sectors := spread(20, of(1, append([]string{rootAlone}, allWritten(sample())...)...), held{mark(1), frames(named(1, 558))})
	one := aLink(3, named(0, 100), true, 0)
	for writes := range last + 2 {
		d := with(t, sectors)
		s := mount(t, d)
		d.Cut(writes)
		n, err := s.Do(one)
		if writes >= last {
			if n != 9 || err != api.OK {
				t.Errorf("%d writes: Do = %d, %d; want 9", writes, n, err)
			}
			expectStore(t, s, 4, behind(append(sample(), one)...))
			continue
		}
		if n != 0 || err != api.ErrLost {
			t.Errorf("%d writes: Do = %d, %d; want 0, %d", writes, n, err, api.ErrLost)
		}
		room := 0
		if writes > signed {
			room = 6
		}
		expectOver(t, s, room, behind(sample()...))
		flushed := 0
		for _, at := range []int{shut, imaged, signed} {
			if at < writes {
				flushed = at
			}
		}
		expectPending(t, d, writes-flushed)
		d.Restart()
		expectMounted(t, d, room, behind(sample()...))
	}
}

// P13.2: a Sync takes no write, and is told of power that went with the last
// one.
func TestSync(t *testing.T) {
	d, s := fresh(t, 20)
	d.Cut(1)
	sync(t, d, s)
	sync(t, d, s)
	if n, err := s.Do(aLink(0, "a", true, 0)); n != 1 || err != api.OK {
		t.Errorf("Do = %d, %d", n, err)
	}
	expect(t, "Sync", s.Sync(), api.ErrLost)
	expectOver(t, s, 7, behind(aLink(0, "a", true, 0)))
	expectPending(t, d, 1)
	d.Restart()
	expectMounted(t, d, 8, behind())
}

// P13.2: a Sync flushes all that is pending, by whomever it was written.
func TestSyncFlushes(t *testing.T) {
	d, s := fresh(t, 21)
	for n, one := range sample() {
		do(t, d, s, one, n+1)
	}
	d.Put(20, mark(20))
	expectPending(t, d, 9)
	sync(t, d, s)
	d.Restart()
	expectSectors(t, d, spread(21, of(1, append([]string{rootAlone}, allWritten(sample())...)...), of(0)))
	expectMounted(t, d, 0, behind(sample()...))
}

// P13.2: Room and Over are those of the vault that stands there.
func TestAsTheVault(t *testing.T) {
	draw := drawer()
	for _, size := range []int{8, 21, 60} {
		d, s := fresh(t, size)
		for range 60 {
			s.Do(drawnDeed(draw, s.Tree()))
			v, err := vault.Open(copied(t, d))
			if err != api.OK || v.Room() != s.Room() || v.Over() != s.Over() {
				t.Fatalf("Room() = %d, Over() = %t; want %d, %t", s.Room(), s.Over(), v.Room(), v.Over())
			}
		}
	}
}

// P13.1: power that goes within a Mount, at each of its writes.
func TestMountLostOnTheWay(t *testing.T) {
	ahead := append([]string{rootAlone}, allWritten(sample())...)
	stand := append(frames(ahead...), noughts(), mark(1), noughts(), mark(2), mark(3))
	sectors := spread(40, of(0), held{head(3), stand})
	for writes := range 4 {
		d := with(t, sectors)
		d.Cut(writes)
		expectNoMount(t, d, api.ErrLost)
		expectPending(t, d, writes)
		d.Restart(0, 1)
		expectMounted(t, d, 10, behind(sample()...))
	}
	d := with(t, sectors)
	d.Cut(4)
	expectStore(t, mount(t, d), 10, behind(sample()...))
	expectSectors(t, d, spread(40, of(0), of(3, ahead...)))
	d = sector.New(40)
	format(t, d)
	d.Cut(1)
	expectStore(t, mount(t, d), 18, behind())
}
