package fs_test

import (
	"slices"
	"strings"
	"testing"

	"toponym/api"
	"toponym/faces"
	"toponym/fs"
	"toponym/image"
	"toponym/sector"
	"toponym/tree"
)

// losses are choices of what is kept of so many pending writes: all choices of
// a few; of more nothing, all, each one alone, all but it, each beginning, each
// end, and some others.
func losses(count int, draw func(below int) int) [][]int {
	var l [][]int
	if count <= 4 {
		for subset := range 1 << count {
			l = append(l, chosen(count, func(n int) bool { return subset>>n&1 == 1 }))
		}
		return l
	}
	l = append(l, nil, chosen(count, func(int) bool { return true }))
	for at := range count {
		l = append(l,
			[]int{at},
			chosen(count, func(n int) bool { return n != at }),
			chosen(count, func(n int) bool { return n < at }),
			chosen(count, func(n int) bool { return n > at }),
			chosen(count, func(int) bool { return draw(2) == 0 }),
		)
	}
	return l
}

func chosen(count int, keeps func(n int) bool) []int {
	var l []int
	for n := range count {
		if keeps(n) {
			l = append(l, n)
		}
	}
	return l
}

// known is what is known of a disk: the trees' images behind each beginning of
// the calls, from which of these on one is there whatever is lost, and the image
// behind the call that was cut off.
type known struct {
	images []string
	safe   int
	cut    string
}

func knownOf(tr *tree.Tree) known {
	return known{images: []string{image.Encode(tr)}}
}

func (k *known) allows(tr *tree.Tree) bool {
	b := image.Encode(tr)
	return slices.Contains(k.images[k.safe:], b) || k.cut != "" && b == k.cut
}

// did does a call that may meet that power is gone, and tells whether it does.
func (k *disk) did(t *testing.T, of *known, c call) bool {
	t.Helper()
	got := c.on(k.f)
	was := k.m.clone()
	want := c.on(k.m)
	if got == wrong(api.ErrLost) {
		if want.err == api.OK {
			of.cut = image.Encode(k.m.Tree())
		}
		k.m = was
		return true
	}
	if got != want {
		t.Fatalf("%d: %s = %s; want %s", k.enc, c.what, got, want)
	}
	of.images = append(of.images, image.Encode(k.m.Tree()))
	if c.what == syncs().what {
		of.safe = len(of.images) - 1
	}
	return false
}

// row is calls that are done to a disk.
type row struct {
	name    string
	sectors int
	begin   []call // these are safe
	calls   []call
}

func rows() []row {
	l := alike()
	face := func(number int) string { return "/" + faceOf(0, api.Entry{Name: l[0], Short: number}) }
	begin := []call{makes("/a", true), makes("/a/b", true), makes("/a/b/c", false), makes("/f", false), plants("/", stars(90), false)}
	return []row{
		{"each kind once", 60, begin, []call{makes("/n", true), removes("/f", false), renames("/a/b", "/n/b"), plants("/n", stars(90), false)}},
		{"of several frames", 60, begin, []call{makes("/"+letters(255), true), renames("/a", "/"+letters(255)+"/"+letters(100)), plants("/", stars(91), true), removes("/"+face90, false)}},
		{"synced between", 60, nil, []call{
			makes("/a", true), plants("/", l[0], true), syncs(), plants("/", l[1], false), renames(face(1), "/b"), removes(face(2), false), syncs(), syncs(), plants("/a", l[2], false), plants("/a", l[3], false),
		}},
		{"what goes wrong between", 60, begin, []call{
			makes("/a", true), makes("/n", false), makes("/%61", true), removes("/a", true), removes("/n", false), renames("/a", "/a/x"), plants("/a", "", true), syncs(), list("/", 0, 9), plants("/a", "n", true), lookup("/x"), removes("/x", true), raw("/a"), makes("/a/n/n", true),
		}},
		{"renewed", 14, nil, []call{
			makes("/a", true), makes("/b", false), renames("/b", "/a/b"), makes("/c", false), removes("/a/b", false), renames("/c", "/a/c"), makes("/d", true), renames("/a/c", "/d/c"), removes("/a", true), removes("/d/c", false),
		}},
		{"renewed and synced", 18, begin[:4], []call{
			renames("/a", "/n"), renames("/n", "/a"), syncs(), renames("/f", "/a/f"), plants("/a", letters(100), false), syncs(), removes("/a/f", false), renames("/a/"+letters(100), "/f"), makes("/f", true), makes("/g", true), removes("/g", true), syncs(), makes("/h", true),
		}},
		{"full", 8, nil, []call{
			makes("/a", true), makes("/a/b", false), plants("/", letters(30), false), makes("/n", true), removes("/a/b", false), makes("/"+letters(200), false), plants("/a", stars(90), true), removes("/a", true), makes("/m", true),
		}},
	}
}

// base is where a row begins, on the device and over again.
type base struct {
	enc     int
	sectors string
	m       *ruled
}

func (r row) base(t *testing.T, enc int) base {
	t.Helper()
	k := fresh(t, r.sectors, enc)
	k.do(t, r.begin...)
	k.do(t, syncs())
	return base{enc, sectorsOf(k.d), k.m}
}

func (b base) disk(t *testing.T) *disk {
	t.Helper()
	d := with(t, b.sectors)
	return &disk{b.enc, d, mount(t, d, b.enc), b.m.clone()}
}

// play does a row up to where power goes, and tells whether it does.
func (r row) play(t *testing.T, k *disk, writes int) (known, bool) {
	t.Helper()
	of := knownOf(k.m.Tree())
	k.d.Cut(writes)
	for _, c := range r.calls {
		if k.did(t, &of, c) {
			return of, true
		}
	}
	return of, k.d.Flush() == api.ErrLost
}

// crashed does something with a row's device behind each crash: power goes at
// any write, and of what is pending then this or that is kept.
func (r row) crashed(t *testing.T, enc int, do func(d *sector.Device, of known)) {
	t.Helper()
	draw := drawer()
	b := r.base(t, enc)
	for writes, lost := 0, true; lost; writes++ {
		ahead := b.disk(t)
		r.play(t, ahead, writes)
		for _, kept := range losses(ahead.d.Pending(), draw) {
			k := b.disk(t)
			of, gone := r.play(t, k, writes)
			lost = gone
			k.d.Restart(kept...)
			do(k.d, of)
			if t.Failed() {
				t.Fatalf("%s, %d: power goes behind %d writes, and of what is pending %v is kept", r.name, enc, writes, kept)
			}
		}
	}
}

func expectClean(t *testing.T, enc int, tr *tree.Tree) {
	t.Helper()
	for _, dir := range tr.Dirs() {
		if l, err := tr.List(dir); err != api.OK || !faces.Clean(enc, l) {
			t.Errorf("%d: the directory %d isn't clean: %v", enc, dir, l)
		}
	}
}

// expectKnown mounts it, once more, and goes on: what stands then stays.
func expectKnown(t *testing.T, d *sector.Device, enc int, of known) {
	t.Helper()
	f := mount(t, d, enc)
	want, room := f.Tree(), f.Room()
	if !of.allows(want) {
		t.Errorf("mounted: % x; want what is known, % x, from %d on, or % x", image.Encode(want), of.images, of.safe, of.cut)
	}
	expectClean(t, enc, want)
	k := &disk{enc, d, mount(t, d, enc), ruledOf(enc, d.Size(), want, room)}
	k.expectState(t)
	k.try(t, makes("/behind", false))
	k.expectFaces(t)
	k.try(t, syncs())
	d.Restart()
	k.remount(t)
}

// P17.4, P4: what is mounted behind each crash of each row.
func TestBeginningStands(t *testing.T) {
	for i, r := range rows() {
		for _, enc := range []int{i % encodings, (i + 7) % encodings} {
			r.crashed(t, enc, func(d *sector.Device, of known) {
				expectKnown(t, d, enc, of)
			})
		}
	}
}

// P17.4: rows do what they say, so that crashes meet that.
func TestRowsDo(t *testing.T) {
	for _, r := range rows() {
		for enc := range encodings {
			b := r.base(t, enc)
			k := b.disk(t)
			of, lost := r.play(t, k, -1)
			slices.Sort(of.images)
			if count := len(slices.Compact(of.images)); lost || count < 4 {
				t.Errorf("%s, %d: power goes: %v; %d trees", r.name, enc, lost, count)
			}
			half := len(b.sectors) / 2
			now := sectorsOf(k.d)
			renewed := now[:8] != b.sectors[:8] || now[half:half+8] != b.sectors[half:half+8]
			if renewed != slices.Contains([]string{"renewed", "renewed and synced", "full"}, r.name) {
				t.Errorf("%s, %d: renewed is %v", r.name, enc, renewed)
			}
			k.m.Sync()
			k.expectState(t)
		}
	}
}

// P17.4, P4: power goes again, at any write of the Mount behind a crash: what it
// would have mounted is there.
func TestMountCutOff(t *testing.T) {
	draw := drawer()
	for i, r := range rows() {
		enc := (i + 3) % encodings
		seen := map[string]int{}
		r.crashed(t, enc, func(d *sector.Device, of known) {
			sectors := sectorsOf(d)
			if seen[sectors]++; seen[sectors] > 1 {
				return
			}
			f := mount(t, d, enc)
			want, room := f.Tree(), f.Room()
			if !of.allows(want) {
				t.Errorf("mounted: % x", image.Encode(want))
			}
			for writes, lost := 0, true; lost; writes++ {
				d := with(t, sectors)
				d.Cut(writes)
				f, err := fs.Mount(d, enc)
				lost = err == api.ErrLost
				if (f == nil) != lost {
					t.Errorf("Mount = a file system: %v, %d", f != nil, err)
				}
				for _, kept := range losses(d.Pending(), draw) {
					d := with(t, sectors)
					d.Cut(writes)
					fs.Mount(d, enc)
					d.Restart(kept...)
					for range 2 {
						if f := mount(t, d, enc); !tree.Same(f.Tree(), want) || f.Room() != room {
							t.Errorf("behind %d writes, of which %v are kept, there is another tree", writes, kept)
						}
					}
				}
			}
		})
	}
}

// P17.4: a Format that is cut off leaves nothing, or a root alone.
func TestFormatCutOff(t *testing.T) {
	draw := drawer()
	came := map[api.Errno]int{}
	for _, sectors := range []string{strings.Repeat("\x00", 12*api.Sector), strings.Repeat("junk", 12*api.Sector/4)} {
		for writes, lost := 0, true; lost; writes++ {
			d := with(t, sectors)
			d.Cut(writes)
			lost = fs.Format(d) == api.ErrLost
			for _, kept := range losses(d.Pending(), draw) {
				d := with(t, sectors)
				d.Cut(writes)
				fs.Format(d)
				d.Restart(kept...)
				f, err := fs.Mount(d, api.Kana)
				came[err]++
				if err == api.OK && !tree.Same(f.Tree(), tree.New()) || err != api.OK && (f != nil || err != api.ErrForm) {
					t.Errorf("power goes behind %d writes, and %v is kept: %d", writes, kept, err)
				}
			}
		}
	}
	if came[api.OK] < 2 || came[api.ErrForm] < 10 || len(came) != 2 {
		t.Errorf("there came %v", came)
	}
}

// The fourth of the whole's examples: two names are made, one is synced, power
// goes: one or both are there.
func TestExampleCrash(t *testing.T) {
	for enc := range encodings {
		for _, both := range []bool{false, true} {
			k := fresh(t, 60, enc)
			k.do(t, makes("/a", true), syncs(), makes("/b", false))
			k.d.Cut(0)
			if both {
				k.d.Restart(0)
			} else {
				k.d.Restart()
			}
			k.remountBehind(t)
			k.expectNode(t, "/a", 1, true, "a")
			if both {
				k.expectNode(t, "/b", 2, false, "b")
			} else {
				k.expectWrong(t, api.ErrNone, lookup("/b"))
			}
		}
	}
}

// P17.4, P4: rows, power and losses that are drawn, with crash behind crash,
// within Mounts, too, also such as are of another encoding.
func TestCrashBehindCrash(t *testing.T) {
	draw := drawer()
	came := map[api.Errno]int{}
	for round := range 90 {
		enc := round % encodings
		k := fresh(t, 8+draw(120), enc)
		of := knownOf(k.m.Tree())
		for range 10 {
			if draw(3) == 0 {
				k.d.Cut(draw(4))
				fs.Mount(k.d, draw(encodings))
				k.d.Restart(drawnKept(draw, k.d.Pending())...)
			}
			k.remountBehind(t)
			if !of.allows(k.f.Tree()) {
				t.Fatalf("%d: mounted: % x; want what is known, % x, from %d on, or % x", enc, image.Encode(k.f.Tree()), of.images, of.safe, of.cut)
			}
			k.expectFaces(t)
			of = knownOf(k.f.Tree())
			k.d.Cut(draw(40))
			for range 40 {
				c := k.m.drawnCall(draw)
				if draw(8) == 0 {
					c = syncs()
				}
				came[c.on(k.m.clone()).err]++
				if k.did(t, &of, c) {
					came[api.ErrLost]++
					break
				}
			}
			k.d.Restart(drawnKept(draw, k.d.Pending())...)
		}
	}
	for _, err := range []api.Errno{api.OK, api.ErrLost, api.ErrFull, api.ErrExists, api.ErrNone} {
		if came[err] < 50 {
			t.Errorf("%d came %d times", err, came[err])
		}
	}
}

func drawnKept(draw func(below int) int, count int) []int {
	most := draw(4)
	return chosen(count, func(int) bool { return draw(3) < most })
}
