package store_test

import (
	"math"
	"strings"
	"testing"

	"toponym/api"
	"toponym/deed"
	"toponym/image"
	"toponym/sector"
	"toponym/store"
	"toponym/tree"
)

// sizeOf adds up what an image has.
func sizeOf(tr *tree.Tree) int {
	size := 8 + 2
	for _, dir := range tr.Dirs() {
		size += 2 + 2
		l, _ := tr.List(dir)
		for _, e := range l {
			size += 1 + len(e.Name) + 2 + 1 + 8 + 4
		}
	}
	return size
}

func framesOf(size int) int {
	return (size + 61) / 62
}

// filled is a store whose bank has no room left, by deeds of so many bytes each,
// one frame or less.
func filled(t *testing.T, size, bytes int) (*sector.Device, *store.Store, []deed.Deed) {
	t.Helper()
	var deeds []deed.Deed
	for n := range size/2 - 2 {
		deeds = append(deeds, sized(n, bytes))
	}
	d, s := started(t, size, deeds...)
	expectStore(t, s, 0, behind(deeds...))
	return d, s, deeds
}

// doRenewed is for what must go right in a bank that had no room for it: all
// that is pending then is the deed.
func doRenewed(t *testing.T, d *sector.Device, s *store.Store, one deed.Deed, want int) {
	t.Helper()
	tr, need := s.Tree(), framesOf(len(written(one)))
	if s.Room() >= need {
		t.Fatalf("there is room for %#v", one)
	}
	room := d.Size()/2 - 1 - framesOf(sizeOf(tr)) - need
	if n, err := s.Do(one); n != want || err != api.OK {
		t.Fatalf("Do(%#v) = %d, %d; want %d", one, n, err, want)
	}
	called(tr, one)
	expectPending(t, d, need)
	expectStore(t, s, room, tr)
	expectMounted(t, d, room, tr)
}

// expectFull is for a deed that has no room, in whichever state that leaves the
// vault; the tree is as it was.
func expectFull(t *testing.T, d *sector.Device, s *store.Store, one deed.Deed, room int) {
	t.Helper()
	tr := s.Tree()
	if n, err := s.Do(one); n != 0 || err != api.ErrFull {
		t.Errorf("Do(%#v) = %d, %d; want 0, %d", one, n, err, api.ErrFull)
	}
	expectStore(t, s, room, tr)
	expectMounted(t, d, room, tr)
}

// P13.2: a deed that doesn't go beside what stands: the vault is renewed with
// the image as it was, and the deed stands behind that.
func TestRenewed(t *testing.T) {
	for _, one := range []deed.Deed{aLink(1, "n", false, 5), anUnlink(0, named(3, 2), true), aMove(0, named(3, 2), 1, "m", 0)} {
		for _, size := range []int{20, 21} {
			d, s, deeds := filled(t, size, 11)
			was := behind(deeds...)
			records := append([]string{rootAlone}, allWritten(deeds)...)
			n := 0
			if one.Kind == 1 {
				n = len(deeds) + 1
			}
			if size%2 == 1 {
				d.Put(20, mark(20))
			}
			doRenewed(t, d, s, one, n)
			expectSectors(t, d, spread(size, of(1, records...), of(2, image.Encode(was), written(one))))
		}
	}
}

// P13.2: likewise behind deeds that are pending: they are safe then, and the one
// that the vault was renewed for isn't.
func TestRenewedPending(t *testing.T) {
	for _, synced := range []bool{false, true} {
		d, s := fresh(t, 30)
		was := tree.New()
		for n := range 13 {
			do(t, d, s, sized(n, 11), n+1)
			called(was, sized(n, 11))
		}
		expectPending(t, d, 13)
		doRenewed(t, d, s, sized(13, 11), 14)
		if synced {
			sync(t, d, s)
			called(was, sized(13, 11))
		}
		room := s.Room()
		d.Restart()
		if !synced {
			room++
		}
		expectMounted(t, d, room, was)
	}
}

// P13.2: from bank to bank and back, with Mounts between.
func TestRenewedInARow(t *testing.T) {
	for _, again := range []bool{false, true} {
		d, s := fresh(t, 10)
		banks := [2][]string{{rootAlone}, nil}
		epoch, at := uint64(1), 0
		last, want := "", tree.New()
		for n := range 60 {
			next := named(n, 2)
			one := aMove(0, last, 0, next, n)
			if n == 0 {
				one = aLink(0, next, true, 0)
			}
			if s.Room() == 0 {
				epoch, at = epoch+1, 1-at
				banks[at] = []string{image.Encode(want)}
			}
			if _, err := s.Do(one); err != api.OK {
				t.Fatalf("Do(%#v) = %d", one, err)
			}
			called(want, one)
			banks[at] = append(banks[at], written(one))
			last = next
			if again {
				s = mount(t, d)
			}
			expectStore(t, s, 4-len(banks[at]), want)
			held := [2]held{of(epoch-1, banks[0]...), of(epoch-1, banks[1]...)}
			held[at].head = head(epoch)
			expectSectors(t, d, spread(10, held[0], held[1]))
		}
		if epoch != 20 {
			t.Errorf("the vault was renewed %d times", epoch-1)
		}
	}
}

// P13.2: of each number of frames that a link may have: rooms just great enough,
// and one frame too small, behind a renewal, too.
func TestRoomJustEnough(t *testing.T) {
	for need := 1; need <= 5; need++ {
		for _, bytes := range []int{max(62*need-61, 10), min(62*need, 264)} {
			one := sized(1, bytes)
			if len(written(one)) != bytes || framesOf(bytes) != need {
				t.Fatalf("%d bytes of %d frames", len(written(one)), framesOf(bytes))
			}
			d, s := fresh(t, 2*(2+need))
			do(t, d, s, one, 1)
			expectStore(t, s, 0, behind(one))

			d, s = fresh(t, 2*(1+need))
			expectFull(t, d, s, one, need-1)
			expectFull(t, d, s, one, need-1)
			sync(t, d, s)
			expectMounted(t, d, need-1, tree.New())
		}
	}
}

// P13.2: likewise, of images that have just the frames that are left to them, or
// a byte more.
func TestRoomJustEnoughRenewed(t *testing.T) {
	for need := 1; need <= 5; need++ {
		for frames := 1; frames <= 5; frames++ {
			for more := range 2 {
				d, s := fresh(t, 2*(1+frames+need))
				imaged(t, s, 62*frames+more)
				fill(t, s, need)
				one := aLink(0, strings.Repeat("n", min(62*need-9, 255)), false, 0)
				if more == 0 {
					doRenewed(t, d, s, one, s.Tree().Nodes()+1)
					expectStore(t, s, 0, s.Tree())
					continue
				}
				expectFull(t, d, s, one, need-1)
				expectFull(t, d, s, one, need-1)
			}
		}
	}
}

// imaged links till the tree's image has just so many bytes, the first file by a
// name of two bytes.
func imaged(t *testing.T, s *store.Store, bytes int) {
	t.Helper()
	for n, size := 0, 2; ; n++ {
		if _, err := s.Do(aLink(0, named(n, size), false, 0)); err != api.OK {
			t.Fatalf("Do = %d", err)
		}
		left := bytes - sizeOf(s.Tree())
		if left == 0 {
			return
		}
		if size = left - 16; left > 60 {
			size = 20
		}
	}
}

// fill does deeds of a frame each that leave the image as long as it is, till
// there is no room for so many.
func fill(t *testing.T, s *store.Store, frames int) {
	t.Helper()
	name, other := named(0, 2), "+*"
	for s.Room() >= frames {
		if _, err := s.Do(aMove(0, name, 0, other, 1)); err != api.OK {
			t.Fatalf("Do = %d", err)
		}
		name, other = other, name
	}
}

// P13.2: a tree whose image has no room in a bank: nothing is renewed, and what
// goes beside what stands is still done.
func TestImageHasNoRoom(t *testing.T) {
	const size, last = 42, 19
	var deeds []deed.Deed
	for n := range last - 1 {
		deeds = append(deeds, sized(n, 62))
	}
	d, s := started(t, size, deeds...)
	want := behind(deeds...)
	if framesOf(sizeOf(want)) < size/2 || s.Room() != 1 {
		t.Fatalf("%d frames, Room() = %d", framesOf(sizeOf(want)), s.Room())
	}
	for _, one := range []deed.Deed{sized(last, 63), aMove(0, named(0, 53), 2, "n", 0), aLink(5, strings.Repeat("n", 255), false, 0)} {
		for range 2 {
			sectors := sectorsOf(d)
			expectFull(t, d, s, one, 1)
			expectSectors(t, d, sectors)
			expectPending(t, d, 0)
		}
	}
	do(t, d, s, anUnlink(0, named(7, 53), true), 0)
	called(want, anUnlink(0, named(7, 53), true))
	for _, one := range []deed.Deed{anUnlink(0, named(8, 53), true), aLink(0, "n", false, 0), aMove(0, named(0, 53), 2, "n", 0)} {
		sectors, pending := sectorsOf(d), d.Pending()
		expectFull(t, d, s, one, 0)
		expectSectors(t, d, sectors)
		expectPending(t, d, pending)
	}
	sync(t, d, s)
	d.Restart()
	expectMounted(t, d, 0, want)
}

// P13.2: one that doesn't go beside the image, either: the vault was renewed,
// and what goes there is done.
func TestDeedHasNoRoom(t *testing.T) {
	d, s, deeds := filled(t, 16, 11)
	want := behind(deeds...)
	room := 7 - framesOf(sizeOf(want))
	long := aLink(0, strings.Repeat("n", 255), false, 0)
	expectFull(t, d, s, long, room)
	expectPending(t, d, 0)
	expectSectors(t, d, spread(16, of(1, append([]string{rootAlone}, allWritten(deeds)...)...), of(2, image.Encode(want))))
	expectFull(t, d, s, long, room)
	expectSectors(t, d, spread(16, of(3, image.Encode(want)), of(2, image.Encode(want))))
	for n := range room {
		do(t, d, s, anUnlink(0, named(n, 2), true), 0)
		called(want, anUnlink(0, named(n, 2), true))
	}
	doRenewed(t, d, s, anUnlink(0, named(room, 2), true), 0)
	called(want, anUnlink(0, named(room, 2), true))
	expectMounted(t, d, s.Room(), want)
}

// P13.2: where the epoch is the last one nothing is renewed.
func TestLastEpoch(t *testing.T) {
	for _, epoch := range []uint64{1<<63 - 1, 1 << 63, 1<<63 + 1, math.MaxUint64} {
		d := with(t, spread(10, of(0), of(epoch, rootAlone, written(aLink(0, "a", true, 0)))))
		s := mount(t, d)
		do(t, d, s, aLink(1, "b", false, 0), 2)
		do(t, d, s, aLink(1, "c", false, 0), 3)
		want := behind(aLink(0, "a", true, 0), aLink(1, "b", false, 0), aLink(1, "c", false, 0))
		one := anUnlink(1, "b", false)
		if epoch < 1<<63 {
			doRenewed(t, d, s, one, 0)
			called(want, one)
			do(t, d, s, aLink(0, "x", false, 0), 2)
			called(want, aLink(0, "x", false, 0))
			one = anUnlink(1, "c", false)
		}
		sectors, pending := sectorsOf(d), d.Pending()
		for range 2 {
			if n, err := s.Do(one); n != 0 || err != api.ErrMany {
				t.Errorf("Do = %d, %d; want 0, %d", n, err, api.ErrMany)
			}
			expectSectors(t, d, sectors)
			expectPending(t, d, pending)
			expectStore(t, s, 0, want)
			expectMounted(t, d, 0, want)
		}
	}
}

// lastCookie has one cookie left.
func lastCookie() *tree.Tree {
	tr, err := tree.Make(math.MaxInt64, map[int][]api.Entry{0: {{Name: "a", Node: 1, Cookie: 1}}})
	if err != api.OK {
		panic("no tree")
	}
	return tr
}

// P13.2, P13.3: a tree whose last cookie was given has no image that could be
// mounted: none is put in the place of what can be, and what goes beside that is
// still done.
func TestLastCookie(t *testing.T) {
	turns := []done{{aLink(0, "b", false, 0), 2}, {anUnlink(0, "b", false), 0}, {anUnlink(0, "a", false), 0}}
	for room := 1; room <= 3; room++ {
		d := with(t, stored(2*(2+room), image.Encode(lastCookie())))
		s, want := mount(t, d), lastCookie()
		for _, w := range turns[:room] {
			do(t, d, s, w.d, w.n)
			called(want, w.d)
		}
		expectNotDone(t, d, s, aLink(0, "c", false, 0), api.ErrMany)
		if room == len(turns) {
			continue
		}
		expectNotDone(t, d, s, turns[room].d, api.ErrMany)
		expectNotDone(t, d, s, turns[room].d, api.ErrMany)
		sync(t, d, s)
		expectMounted(t, d, 0, want)
	}
}

// P1, P13.2: on devices of many sizes: ErrFull comes just where the image, and
// the deed beside it, have no room; room is what is left of the bank.
func TestFullJustWhereItIs(t *testing.T) {
	draw := drawer()
	came := map[api.Errno]int{}
	for size := 4; size < 60; size++ {
		for range 4 {
			d, s := fresh(t, size)
			all, used, want := size/2-1, 1, tree.New()
			for range 60 {
				one := drawnDeed(draw, want)
				after := want.Clone()
				n, err := deed.Do(after, one)
				if err == api.OK {
					need, renewed := framesOf(len(written(one))), framesOf(sizeOf(want))
					if used+need > all && renewed <= all {
						used = renewed
					}
					if used+need > all {
						n, err = 0, api.ErrFull
					} else {
						used, want = used+need, after
					}
				}
				if got, gotErr := s.Do(one); got != n || gotErr != err {
					t.Fatalf("%d sectors: Do(%#v) = %d, %d; want %d, %d", size, one, got, gotErr, n, err)
				}
				came[err]++
				expectStore(t, s, all-used, want)
				if draw(9) == 0 {
					s = mount(t, d)
					expectStore(t, s, all-used, want)
				}
			}
			expectMounted(t, d, all-used, want)
			if t.Failed() {
				t.Fatalf("%d sectors", size)
			}
		}
	}
	for _, err := range []api.Errno{api.OK, api.ErrFull, api.ErrArg, api.ErrNone, api.ErrExists, api.ErrDir, api.ErrNotDir, api.ErrNotEmpty, api.ErrLoop} {
		if came[err] < 20 {
			t.Errorf("%d came %d times", err, came[err])
		}
	}
}

// P13.2: the greatest trees go in the greatest device, and come again.
func TestGreatest(t *testing.T) {
	d, s := fresh(t, api.MaxSectors)
	want := tree.New()
	doOne := func(one deed.Deed) {
		if _, err := s.Do(one); err != api.OK {
			t.Fatalf("Do = %d", err)
		}
		called(want, one)
	}
	for n := range api.MaxNodes {
		doOne(aLink(n, named(n, 255), true, 1000000))
	}
	const last, moves = api.MaxNodes - 1, 400
	name, other := named(last, 255), named(last, 254)
	for n := range moves {
		doOne(aMove(last, name, last, other, n))
		name, other = other, name
	}
	const bank, image, link, move = 2047, 888, 5, 9
	const ahead = (bank - 1 - api.MaxNodes*link) / move
	const renewals = 1 + (moves-ahead)/((bank-image)/move)
	room := bank - image - (moves-ahead)%((bank-image)/move)*move
	expectStore(t, s, room, want)
	expectMounted(t, d, room, want)
	if b := sectorsOf(d)[renewals%2*2048]; b != head(renewals+1) {
		t.Errorf("the vault has the head % x", b)
	}
}
