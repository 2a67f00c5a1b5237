package fs_test

import (
	"math"
	"slices"
	"strings"
	"testing"

	"toponym/api"
	"toponym/deed"
	"toponym/fs"
	"toponym/sector"
	"toponym/store"
	"toponym/tree"
)

func expect(t *testing.T, what string, err, want api.Errno) {
	t.Helper()
	if err != want {
		t.Errorf("%s = %d; want %d", what, err, want)
	}
}

// expectNoMount mounts nothing, and nothing is left pending or written anew.
func expectNoMount(t *testing.T, d *sector.Device, enc int, want api.Errno) {
	t.Helper()
	before := sectorsOf(d)
	if f, err := fs.Mount(d, enc); f != nil || err != want {
		t.Errorf("Mount(%d sectors, %d) = a file system: %v, %d; want %d", d.Size(), enc, f != nil, err, want)
	}
	if sectorsOf(d) != before {
		t.Errorf("Mount(%d sectors, %d) = %d, and the device reads otherwise", d.Size(), enc, want)
	}
}

// P17.1: devices that are too small, just large enough, and large, in each
// encoding.
func TestSizes(t *testing.T) {
	for _, sectors := range []int{-1, 0, 1, 2, 3} {
		d := sector.New(sectors)
		expect(t, "Format", fs.Format(d), api.ErrArg)
		for enc := range encodings {
			expectNoMount(t, d, enc, api.ErrArg)
		}
	}
	for _, sectors := range []int{4, 5, 6, 7, 8, 20, 101, api.MaxSectors, api.MaxSectors + 1} {
		for enc := range encodings {
			k := fresh(t, sectors, enc)
			if room := min(sectors, api.MaxSectors)/2 - 2; k.f.Room() != room {
				t.Errorf("%d sectors: Room() = %d; want %d", sectors, k.f.Room(), room)
			}
			k.expect(t, lookup("/"), answer{is: true})
			k.expectNames(t, "/")
			k.expectMounted(t)
		}
	}
}

// P17.1: Format does what layer 13's does, whatever stood there; it hangs on no
// encoding.
func TestFormat(t *testing.T) {
	junk := func(sectors int) string { return strings.Repeat("junk", sectors*api.Sector/4) }
	for _, sectors := range []int{4, 9, 60} {
		for _, text := range []string{junk(sectors), sectorsOf(small(t, 60, api.Latin1).d)[:sectors*api.Sector]} {
			d, e := with(t, text), with(t, text)
			expect(t, "Format", fs.Format(d), api.OK)
			expect(t, "layer 13's", store.Format(e), api.OK)
			if sectorsOf(d) != sectorsOf(e) || d.Pending() != 0 {
				t.Errorf("%d sectors: the devices differ", sectors)
			}
			for enc := range encodings {
				if tr := mount(t, d, enc).Tree(); !tree.Same(tr, tree.New()) {
					t.Errorf("%d sectors, %d: there isn't a root alone", sectors, enc)
				}
			}
		}
	}
	d := sector.New(3)
	d.Cut(0)
	expect(t, "Format", fs.Format(d), api.ErrLost)
	d = sector.New(20)
	d.Cut(2)
	expect(t, "Format", fs.Format(d), api.ErrLost)
}

// P17.1: a number that is no encoding comes ahead of all that is wrong with the
// device, and leaves that alone.
func TestMountNoEncoding(t *testing.T) {
	for _, enc := range noEncodings() {
		k := small(t, 60, api.ASCII)
		k.do(t, makes("/p", false))
		expectNoMount(t, k.d, enc, api.ErrArg)
		k.expectState(t)
		expectNoMount(t, sector.New(0), enc, api.ErrArg)
		expectNoMount(t, sector.New(20), enc, api.ErrArg)
		k.d.Cut(0)
		expectNoMount(t, k.d, enc, api.ErrArg)
	}
}

// P17.1: the store's own errors, ahead of those of names.
func TestMountNoStore(t *testing.T) {
	for enc := range encodings {
		expectNoMount(t, sector.New(20), enc, api.ErrForm)
		expectNoMount(t, with(t, strings.Repeat("junk", 20*api.Sector/4)), enc, api.ErrForm)
		k := small(t, 60, enc)
		broken := "\xff" + sectorsOf(k.d)[1:]
		expectNoMount(t, with(t, broken), enc, api.ErrForm)
		k.d.Cut(0)
		expectNoMount(t, k.d, enc, api.ErrLost)
		k.d.Restart()
		k.remount(t)
		d := sector.New(2)
		d.Cut(0)
		expectNoMount(t, d, enc, api.ErrLost)
	}
}

// stored is a device whose store has these entries, by layer 13's own calls, in
// directories that may be linked ahead.
func stored(t *testing.T, deeds ...deed.Deed) *sector.Device {
	t.Helper()
	d := sector.New(400)
	expect(t, "Format", store.Format(d), api.OK)
	s, err := store.Mount(d)
	expect(t, "Mount", err, api.OK)
	for _, one := range deeds {
		if _, err := s.Do(one); err != api.OK {
			t.Fatalf("Do(%#v) = %d", one, err)
		}
	}
	expect(t, "Sync", s.Sync(), api.OK)
	return d
}

func aLink(dir int, name string, isDir bool, short int) deed.Deed {
	return deed.Deed{Kind: 1, Dir: dir, Name: name, IsDir: isDir, Short: short}
}

// P17.1: entries that fit, with faces of their own, are mounted, with whatever
// Short was theirs.
func TestMountClean(t *testing.T) {
	l := alike()
	d := stored(t, aLink(0, "a", true, 0), aLink(0, stars(90), true, 1000000), aLink(2, "a", true, 0), aLink(3, l[0], false, 7), aLink(3, l[1], false, 1), aLink(1, l[0], false, 7))
	for enc := range encodings {
		k := &disk{enc, d, mount(t, d, enc), nil}
		k.m = ruledOf(enc, d.Size(), k.f.Tree(), k.f.Room())
		k.expectNames(t, "/", "a", "%~a99fd875-1000000")
		k.expect(t, lookup("/%~a99fd875-1000000/a"), answer{node: 3, is: true})
		k.expectNode(t, "/%~a99fd875-1000000/a/"+faceOf(enc, api.Entry{Name: l[0], Short: 7}), 4, false, l[0])
		k.expectMounted(t)
	}
}

// P17.1: each kind of what isn't clean, in the root, in one that is deep, and in
// the last one of many.
func TestMountNotClean(t *testing.T) {
	l := alike()
	kinds := [][]deed.Deed{
		{aLink(0, "b", false, 1)},
		{aLink(0, "b", false, 1000000)},
		{aLink(0, stars(90), true, 0)},
		{aLink(0, stars(86), false, 0)},
		{aLink(0, stars(85), false, 1)},
		{aLink(0, l[0], false, 1), aLink(0, l[1], false, 1)},
		{aLink(0, l[6], true, 3), aLink(0, "between", false, 0), aLink(0, l[2], true, 3)},
	}
	dirs := []deed.Deed{aLink(0, "a", true, 0), aLink(1, "a", true, 0), aLink(2, "b", true, 0), aLink(0, "z", true, 0), aLink(3, stars(100), false, 1), aLink(0, "a.", false, 0)}
	for _, kind := range kinds {
		for _, dir := range []int{0, 1, 3, 4} {
			row := slices.Clone(dirs)
			for _, one := range kind {
				one.Dir = dir
				row = append(row, one)
			}
			d := stored(t, row...)
			for enc := range encodings {
				expectNoMount(t, d, enc, api.ErrForm)
			}
			if s, err := store.Mount(d); err != api.OK || s.Tree().Nodes() != len(row) {
				t.Errorf("the store isn't there any more: %d", err)
			}
		}
	}
	for enc := range encodings {
		mount(t, stored(t, dirs...), enc)
	}
}

// telling is a name that is long in some encodings alone.
type telling struct {
	raw  string
	long []int
}

func tellings() []telling {
	return []telling{
		{"plain", nil},
		{stars(85), nil},
		{stars(86), []int{0, 1, 2, 3, 4, 5, 6, 7, 8}},
		{strings.Repeat("\x80", 86), []int{api.ASCII, api.Kana, api.UTF8, api.HFS}},
		{strings.Repeat("\xb0", 100), []int{api.ASCII, api.CP437, api.CP850, api.Kana, api.UTF8, api.HFS}},
		{strings.Repeat("\x82\xa0", 60), []int{api.ASCII, api.UTF8, api.HFS}},
		{strings.Repeat("\xa4", 100), []int{api.ASCII, api.Latin9, api.Kana, api.UTF8, api.HFS}},
		{strings.Repeat("\xa5", 128), []int{api.ASCII, api.Latin1, api.Latin2, api.Latin9, api.CP437, api.CP850, api.Kana, api.UTF8, api.HFS}},
		{strings.Repeat("\u00e9", 100), []int{api.ASCII, api.Latin1, api.Latin2, api.Latin9, api.CP437, api.CP850, api.Kana, api.HFS}},
		{strings.Repeat("e\u0301", 85), []int{api.ASCII, api.Latin1, api.Latin2, api.Latin9, api.CP437, api.CP850, api.Kana}},
	}
}

// P17.1: what was planted in one encoding is mounted in another one just where
// its names fit there.
func TestMountOther(t *testing.T) {
	came := map[bool]int{}
	for _, x := range tellings() {
		for enc := range encodings {
			for _, path := range []string{"/", "/d", "/d/d"} {
				k := fresh(t, 60, enc)
				k.do(t, makes("/d", true), makes("/d/d", true), makes("/z", true), plants(path, x.raw, false), makes("/z/z", false), syncs())
				for other := range encodings {
					fits := slices.Contains(x.long, enc) == slices.Contains(x.long, other)
					came[fits]++
					if !fits {
						expectNoMount(t, k.d, other, api.ErrForm)
						continue
					}
					if f := mount(t, k.d, other); !tree.Same(f.Tree(), k.m.Tree()) {
						t.Errorf("%d, %d: another tree is mounted", enc, other)
					}
				}
				k.remount(t)
			}
		}
	}
	if came[true] < 100 || came[false] < 100 {
		t.Errorf("there came %v", came)
	}
}

// P17.1, P17.2: what is mounted in another encoding is presented in that.
func TestMountOtherFaces(t *testing.T) {
	d := stored(t, aLink(0, "caf\xe9", true, 0), aLink(1, "e\u0301", false, 0))
	for enc, want := range [][]string{
		{"caf%e9", "e%cc%81"},
		{"caf\u00e9", "e\u00cc\u0081"},
		{"caf\u00e9", "e\u011a\u0081"},
		{"caf\u00e9", "e\u00cc\u0081"},
		{"caf\u0398", "e\u2560\u00fc"},
		{"caf\u00da", "e\u2560\u00fc"},
		{"caf%e9", "e\uff8c%81"},
		{"caf%e9", "e\u0301"},
		{"caf%e9", "\u00e9"},
	} {
		k := &disk{enc, d, mount(t, d, enc), nil}
		k.m = ruledOf(enc, d.Size(), k.f.Tree(), k.f.Room())
		k.expectNames(t, "/", want[0])
		k.expectNames(t, "/"+want[0], want[1])
		k.expectNode(t, of(want...), 2, false, "e\u0301")
	}
}

// P17.1: Sync makes safe what is pending, on the whole device.
func TestSync(t *testing.T) {
	for enc := range encodings {
		k := small(t, 60, enc)
		k.do(t, makes("/p", false))
		k.d.Put(59, strings.Repeat("p", api.Sector))
		if n := k.d.Pending(); n != 2 {
			t.Errorf("Pending() = %d", n)
		}
		expect(t, "Sync", k.f.Sync(), api.OK)
		k.m.Sync()
		k.expectState(t)
		k.expect(t, syncs(), answer{})
		k.do(t, makes("/q", false))
		k.d.Restart()
		k.remountBehind(t)
		k.expect(t, lookup("/p"), answer{node: 7})
		k.expectWrong(t, api.ErrNone, lookup("/q"))
	}
}

// remountBehind takes what stands for what should.
func (k *disk) remountBehind(t *testing.T) {
	t.Helper()
	k.f = mount(t, k.d, k.enc)
	k.m = ruledOf(k.enc, k.d.Size(), k.f.Tree(), k.f.Room())
}

// P17.1: Room is how many frames are left, behind a renewal, too.
func TestRoom(t *testing.T) {
	k := fresh(t, 16, api.Latin1)
	for _, room := range []int{5, 4, 3, 2, 1, 0} {
		if n := k.f.Room(); n != room+1 {
			t.Errorf("Room() = %d; want %d", n, room+1)
		}
		k.do(t, makes("/"+letters(6-room), false))
	}
	k.do(t, makes("/b", false))
	if n := k.f.Room(); n != 3 {
		t.Errorf("Room() = %d; want 3", n)
	}
	k.do(t, plants("/", stars(100), false))
	if n := k.f.Room(); n != 1 {
		t.Errorf("Room() = %d; want 1", n)
	}
	k.expectMounted(t)
}

// P17.1, R7: the tree is a clone: what is done to it isn't seen.
func TestTree(t *testing.T) {
	for enc := range encodings {
		k := small(t, 60, enc)
		tr := k.f.Tree()
		tr.Link(0, "b", true, 0)
		tr.Unlink(0, "f", false)
		k.expectState(t)
		k.expect(t, lookup("/f"), answer{node: 4})
		k.expectWrong(t, api.ErrNone, lookup("/b"))
		was := k.f.Tree()
		k.do(t, removes("/f", false), makes("/b", true))
		if !tree.Same(was, small(t, 60, enc).f.Tree()) {
			t.Errorf("%d: the tree that was handed out has changed", enc)
		}
	}
}

// R7: file systems of different devices don't hang on one another.
func TestSideBySide(t *testing.T) {
	a, b := small(t, 60, api.Latin1), small(t, 60, api.HFS)
	a.do(t, makes("/\u00e9", true))
	b.expectWrong(t, api.ErrNone, lookup("/\u00e9"))
	b.do(t, makes("/\u00e9", false))
	a.expectNode(t, "/\u00e9", 7, true, "\xe9")
	b.expectNode(t, "/\u00e9", 7, false, "e\u0301")
	a.d.Cut(0)
	expect(t, "Sync", a.f.Sync(), api.ErrLost)
	b.do(t, removes("/\u00e9", false), syncs())
	b.expectMounted(t)
}

// R1: a file system that nobody mounted has nothing, and nothing can be done to
// it.
func TestNobodyMounted(t *testing.T) {
	var f fs.FS
	for range 2 {
		for _, c := range []call{makes("/a", true), makes("", true), removes("/a", false), renames("/a", "/b"), plants("/", "a", true), plants("x", "", true), syncs()} {
			if got := c.on(&f); got != wrong(api.ErrLost) {
				t.Errorf("%s = %s", c.what, got)
			}
		}
		for _, c := range []call{lookup("/a"), raw("/a"), lookup("/a/b"), list("/a", 0, 1), list("/", 0, 1)} {
			if got := c.on(&f); got != wrong(api.ErrNone) {
				t.Errorf("%s = %s", c.what, got)
			}
		}
		for _, c := range []call{lookup(""), raw("a"), list("/a/", math.MinInt64, math.MinInt)} {
			if got := c.on(&f); got != wrong(api.ErrName) {
				t.Errorf("%s = %s", c.what, got)
			}
		}
		if !f.Over() || f.Room() != 0 || f.Tree() == nil || f.Tree().Nodes() != 0 {
			t.Errorf("Over() = %v, Room() = %d", f.Over(), f.Room())
		}
	}
}
