package store_test

import (
	"slices"
	"testing"

	"toponym/api"
	"toponym/deed"
	"toponym/image"
	"toponym/sector"
	"toponym/store"
	"toponym/tree"
)

// losses are choices of what is kept of so many pending writes: all choices of
// a few; of more nothing, all, each one alone, all but it, each beginning, each
// end, and some others.
func losses(count int, draw func(below int) int) [][]int {
	if count <= 5 {
		var l [][]int
		for subset := range 1 << count {
			l = append(l, chosen(count, func(n int) bool { return subset>>n&1 == 1 }))
		}
		return l
	}
	l := [][]int{nil, chosen(count, func(n int) bool { return true })}
	for at := range count {
		l = append(l,
			[]int{at},
			chosen(count, func(n int) bool { return n != at }),
			chosen(count, func(n int) bool { return n < at }),
			chosen(count, func(n int) bool { return n > at }),
			chosen(count, func(int) bool { return draw(2) == 0 }),
			chosen(count, func(int) bool { return draw(4) > 0 }),
		)
	}
	return l
}

func chosen(count int, keeps func(n int) bool) []int {
	var l []int
	for n := range count {
		if keeps(n) {
			l = append(l, n)
		}
	}
	return l
}

// known is what is known of a store: the trees' images behind each beginning of
// its deeds, how many of these are there whatever is lost, and the image behind
// the one that was cut off, too.
type known struct {
	images []string
	safe   int
	cut    string
}

func knownOf(s *store.Store) known {
	return known{images: []string{image.Encode(s.Tree())}}
}

func (k known) allows(tr *tree.Tree) bool {
	b := image.Encode(tr)
	return slices.Contains(k.images[k.safe:], b) || k.cut != "" && b == k.cut
}

// call is one of a row, and what is known behind it.
type call func(d *sector.Device, s *store.Store, k *known) api.Errno

func doCall(one deed.Deed) call {
	return func(d *sector.Device, s *store.Store, k *known) api.Errno {
		tr := s.Tree()
		_, err := s.Do(one)
		if _, wrong := called(tr, one); wrong != api.OK {
			return err
		}
		switch err {
		case api.OK:
			k.images = append(k.images, image.Encode(tr))
		case api.ErrLost:
			k.cut = image.Encode(tr)
		}
		k.renewed(d, one, err)
		return err
	}
}

// renewed is told by what is pending: of the deeds ahead nothing is.
func (k *known) renewed(d *sector.Device, one deed.Deed, err api.Errno) {
	if err == api.OK && d.Pending() == framesOf(len(written(one))) {
		k.safe = len(k.images) - 2
	}
}

func syncCall() call {
	return func(d *sector.Device, s *store.Store, k *known) api.Errno {
		err := s.Sync()
		if err == api.OK {
			k.safe = len(k.images) - 1
		}
		return err
	}
}

// row is a device, and calls that are done to its store.
type row struct {
	name    string
	sectors []string
	calls   []call
}

func doCalls(deeds ...deed.Deed) []call {
	var l []call
	for _, one := range deeds {
		l = append(l, doCall(one))
	}
	return l
}

func rows() []row {
	whole := image.Encode(behind(sample()...))
	long, longer := aLink(0, named(1, 100), true, 0), aLink(3, named(2, 255), false, 1)
	used := spread(40, of(4, whole, written(anUnlink(0, "b", false)), written(long)), of(3, rootAlone, written(longer), written(aLink(0, "old", true, 0))))
	return []row{
		{"a deed of each kind", stored(40, whole), doCalls(aLink(3, "n", true, 0), aMove(0, "b", 3, "b", 0), anUnlink(3, "n", true))},
		{"deeds of several frames", stored(40, whole), doCalls(long, longer, aMove(0, named(1, 100), 3, named(1, 100), 0))},
		{"synced between", stored(30, rootAlone), []call{
			doCall(aLink(0, "a", true, 0)), doCall(aLink(1, named(1, 90), false, 0)), syncCall(), doCall(anUnlink(1, named(1, 90), false)),
			doCall(aMove(0, "a", 0, "b", 0)), syncCall(), syncCall(), doCall(long),
		}},
		{"what can't be done between", stored(30, rootAlone), []call{
			doCall(aLink(0, "a", true, 0)), doCall(aLink(0, "a", true, 0)), doCall(long), syncCall(), doCall(anUnlink(0, "b", true)),
			doCall(aLink(1, "..", true, 0)), doCall(aLink(1, "c", false, 0)), doCall(deed.Deed{}), doCall(aMove(0, "a", 1, "a", 0)),
		}},
		{"renewed", stored(12, rootAlone), doCalls(aLink(0, "a", true, 0), aLink(1, "b", false, 0), aMove(1, "b", 0, "b", 0), aLink(0, "c", false, 0), anUnlink(0, "b", false), aMove(0, "c", 1, "d", 3))},
		{"renewed twice", stored(14, rootAlone), []call{
			doCall(aLink(0, "a", true, 0)), syncCall(), doCall(aLink(1, "b", false, 0)), doCall(aLink(0, "c", false, 0)), doCall(anUnlink(1, "b", false)),
			doCall(aLink(0, "d", false, 0)), doCall(aLink(0, named(1, 100), false, 0)), doCall(aMove(0, "d", 1, "d", 0)), syncCall(), doCall(aMove(0, named(1, 100), 1, "e", 0)),
			doCall(anUnlink(1, "d", false)), doCall(anUnlink(1, "e", false)),
		}},
		{"renewed where there was another", used, doCalls(aLink(3, "n", true, 0), longer, longer, aMove(3, named(2, 255), 5, named(3, 255), 0), aMove(5, named(3, 255), 3, named(4, 255), 0), anUnlink(3, named(4, 255), false))},
		{"equal epochs", spread(12, of(3, rootAlone, written(aLink(0, "a", true, 0))), of(3, rootAlone, written(long))), doCalls(
			aLink(1, "b", false, 0), aMove(1, "b", 0, "b", 0), aLink(1, "c", false, 0), anUnlink(0, "b", false), aMove(0, "a", 0, "d", 0),
		)},
		{"the last epoch", spread(10, of(1<<63-1, rootAlone, written(aLink(0, "a", true, 0))), of(0)), doCalls(
			aLink(1, "b", false, 0), aMove(1, "b", 0, "b", 0), anUnlink(0, "b", false), aMove(0, "a", 0, "d", 0),
		)},
	}
}

// play does a row up to where power goes, and tells whether it does.
func play(t *testing.T, d *sector.Device, calls []call, writes int) (known, bool) {
	t.Helper()
	s := mount(t, d)
	k := knownOf(s)
	d.Cut(writes)
	for _, do := range calls {
		if do(d, s, &k) == api.ErrLost {
			return k, true
		}
	}
	return k, d.Flush() == api.ErrLost
}

// crashed does something with a row's device behind each crash: power goes at
// any write, and of what is pending then this or that is kept.
func crashed(t *testing.T, r row, do func(d *sector.Device, k known)) {
	t.Helper()
	draw := drawer()
	for writes, lost := 0, true; lost; writes++ {
		pending := with(t, r.sectors)
		play(t, pending, r.calls, writes)
		for _, kept := range losses(pending.Pending(), draw) {
			d := with(t, r.sectors)
			k, gone := play(t, d, r.calls, writes)
			lost = gone
			d.Restart(kept...)
			do(d, k)
			if t.Failed() {
				t.Fatalf("%s: power goes behind %d writes, and of what is pending %v is kept", r.name, writes, kept)
			}
		}
	}
}

// expectKnown mounts it, once more, and once more, and goes on: what stands then
// stays.
func expectKnown(t *testing.T, d *sector.Device, k known) {
	t.Helper()
	s := mount(t, d)
	want, room := s.Tree(), s.Room()
	if !k.allows(want) {
		t.Errorf("mounted: % x; want what is known, % x, from %d on, or % x", image.Encode(want), k.images, k.safe, k.cut)
	}
	expectStore(t, mount(t, d), room, want)
	s = mount(t, d)
	expectStore(t, s, room, want)
	one := aLink(0, "behind", false, 0)
	n, err := s.Do(one)
	if err == api.OK {
		called(want, one)
	}
	if err != api.OK && err != api.ErrFull && err != api.ErrMany || err == api.OK && n == 0 {
		t.Errorf("Do behind a crash = %d, %d", n, err)
	}
	sync(t, d, s)
	d.Restart()
	expectStore(t, mount(t, d), s.Room(), want)
}

// expectImage is for many stores: it is told by the tree's image.
func expectImage(t *testing.T, s *store.Store, room int, want string) {
	t.Helper()
	if got := image.Encode(s.Tree()); got != want || s.Room() != room || s.Over() {
		t.Errorf("mounted: % x, Room() = %d, Over() = %t; want % x, %d", got, s.Room(), s.Over(), want, room)
	}
}

// P13.3: what is mounted behind each crash of each row.
func TestBeginningStands(t *testing.T) {
	for _, r := range rows() {
		crashed(t, r, func(d *sector.Device, k known) {
			expectKnown(t, d, k)
		})
	}
}

// P13.3: rows renew as often as they say, so that crashes meet that, too.
func TestRowsRenew(t *testing.T) {
	for _, r := range rows() {
		d := with(t, r.sectors)
		k, lost := play(t, d, r.calls, -1)
		if lost {
			t.Errorf("%s: power goes, though it isn't cut", r.name)
		}
		first, second := sectorsOf(d)[0], sectorsOf(d)[d.Size()/2]
		renewed := first != r.sectors[0] || second != r.sectors[d.Size()/2]
		if renewed != slices.Contains([]string{"renewed", "renewed twice", "renewed where there was another", "equal epochs", "the last epoch"}, r.name) {
			t.Errorf("%s: renewed is %t", r.name, renewed)
		}
		if r.name == "renewed twice" && first != head(3) {
			t.Errorf("%s: % x, % x", r.name, first, second)
		}
		if len(k.images) < 4 {
			t.Errorf("%s: only %d deeds were done", r.name, len(k.images)-1)
		}
	}
}

// P13.3: power goes again, at any write of the Mount behind a crash, and this or
// that of what is pending then is kept: what it would have mounted is there.
func TestMountCutOff(t *testing.T) {
	draw := drawer()
	for _, r := range rows() {
		seen := map[string]int{}
		crashed(t, r, func(d *sector.Device, k known) {
			sectors := sectorsOf(d)
			joined := ""
			for _, b := range sectors {
				joined += b
			}
			seen[joined]++
			if seen[joined] > 1 {
				return
			}
			s := mount(t, d)
			want, room := image.Encode(s.Tree()), s.Room()
			if !k.allows(s.Tree()) {
				t.Errorf("mounted: % x", want)
			}
			for writes, lost := 0, true; lost; writes++ {
				d := with(t, sectors)
				d.Cut(writes)
				_, err := store.Mount(d)
				lost = err == api.ErrLost
				for _, kept := range losses(d.Pending(), draw) {
					d := with(t, sectors)
					d.Cut(writes)
					store.Mount(d)
					d.Restart(kept...)
					expectImage(t, mount(t, d), room, want)
					expectImage(t, mount(t, d), room, want)
				}
			}
		})
	}
}

// P13.3: power goes at any write of a Format of what was no store: there is none
// till its head is kept, and then it is whole.
func TestFormatCutOff(t *testing.T) {
	draw := drawer()
	came := 0
	for _, junk := range [][]string{
		slices.Repeat([]string{noughts()}, 12),
		sectorsOf(marked(t, 13)),
		spread(12, held{mark(0), frames(rootAlone, written(aLink(0, "a", true, 0)))}, of(0, rootAlone)),
		spread(12, of(2, "no tree's image"), of(1, rootAlone, "no deed's record")),
	} {
		for writes, lost := 0, true; lost; writes++ {
			d := with(t, junk)
			d.Cut(writes)
			lost = store.Format(d) == api.ErrLost
			for _, kept := range losses(d.Pending(), draw) {
				d := with(t, junk)
				d.Cut(writes)
				store.Format(d)
				d.Restart(kept...)
				_, err := store.Mount(copied(t, d))
				if err == api.OK {
					expectMounted(t, d, 4, tree.New())
					came++
				} else {
					expectNoMount(t, d, api.ErrForm)
					expectNoMount(t, d, api.ErrForm)
				}
				if (err == api.OK) != (!lost || sectorsOf(d)[0] == head(1)) {
					t.Errorf("power goes behind %d writes, and %v is kept: Mount = %d", writes, kept, err)
				}
				format(t, d)
				expectMounted(t, d, 4, tree.New())
			}
		}
	}
	if came != 8 {
		t.Errorf("%d were whole", came)
	}
}

// P13.3: likewise, of a store: what is mounted is its tree behind a beginning of
// its deeds, as long as a head of it is there, then nothing, and then a root
// alone.
func TestFormatOfAStoreCutOff(t *testing.T) {
	draw := drawer()
	whole := image.Encode(behind(sample()...))
	older := spread(40, of(4, append([]string{rootAlone}, allWritten(sample())...)...), of(5, whole, written(anUnlink(0, "b", false)), written(aLink(0, "n", true, 0))))
	k := known{}
	for n := range len(sample()) + 1 {
		k.images = append(k.images, image.Encode(behind(sample()[:n]...)))
	}
	k.images = append(k.images, image.Encode(behind(append(sample(), anUnlink(0, "b", false))...)), image.Encode(behind(append(sample(), anUnlink(0, "b", false), aLink(0, "n", true, 0))...)))
	came := map[api.Errno]int{}
	for writes, lost := 0, true; lost; writes++ {
		d := with(t, older)
		d.Cut(writes)
		lost = store.Format(d) == api.ErrLost
		for _, kept := range losses(d.Pending(), draw) {
			d := with(t, older)
			d.Cut(writes)
			store.Format(d)
			d.Restart(kept...)
			s, err := store.Mount(d)
			came[err]++
			if err != api.OK {
				expectNoMount(t, d, api.ErrForm)
				continue
			}
			if writes > 2 && (s.Tree().Nodes() != 0 || s.Tree().Cookie() != 1) || !k.allows(s.Tree()) {
				t.Errorf("power goes behind %d writes, and %v is kept: % x", writes, kept, image.Encode(s.Tree()))
			}
			expectMounted(t, d, s.Room(), s.Tree())
		}
	}
	if came[api.OK] < 4 || came[api.ErrForm] == 0 || len(came) != 2 {
		t.Errorf("%v", came)
	}
}

// P13.3: many rows, whose deeds, power and losses a small sum picks, with crash
// behind crash, within Mounts, too.
func TestCrashBehindCrash(t *testing.T) {
	draw := drawer()
	came := map[api.Errno]int{}
	for range 200 {
		d := sector.New(6 + draw(60))
		format(t, d)
		k := known{images: []string{rootAlone}}
		for range 12 {
			if draw(3) == 0 {
				d.Cut(draw(4))
				store.Mount(d)
				d.Restart(drawnKept(draw, d.Pending())...)
			}
			s := mount(t, d)
			if !k.allows(s.Tree()) {
				t.Fatalf("mounted: % x; want what is known, % x, from %d on, or % x", image.Encode(s.Tree()), k.images, k.safe, k.cut)
			}
			k = knownOf(s)
			d.Cut(draw(60))
			for range 60 {
				do := doCall(drawnDeed(draw, s.Tree()))
				if draw(6) == 0 {
					do = syncCall()
				}
				came[do(d, s, &k)]++
			}
			if draw(2) == 0 && d.Flush() == api.OK {
				k.safe = len(k.images) - 1
			}
			d.Restart(drawnKept(draw, d.Pending())...)
		}
	}
	for _, err := range []api.Errno{api.OK, api.ErrLost, api.ErrFull, api.ErrExists, api.ErrNone} {
		if came[err] < 100 {
			t.Errorf("%d came %d times", err, came[err])
		}
	}
}

func drawnKept(draw func(below int) int, count int) []int {
	most := draw(4)
	return chosen(count, func(int) bool { return draw(3) < most })
}
