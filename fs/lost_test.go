package fs_test

import (
	"strconv"
	"testing"

	"toponym/api"
	"toponym/tree"
)

// doings are calls that a small disk does, of each kind.
func doings() []call {
	return []call{
		makes("/n", false), makes("/a/b/"+letters(200), true), removes("/f", false), removes("/e", true), removes("/"+face90, false),
		renames("/a", "/n"), renames("/"+face90, "/e/"+letters(255)), plants("/", "\xff", true), plants("/a", stars(90), false), syncs(),
	}
}

// wrongs are calls that would go wrong on a small disk, whether it has power or
// not.
func wrongs() []call {
	return []call{
		makes("", false), makes("/", true), makes("/x/y", true), makes("/f/x", false), makes("/a", true), makes("/"+letters(256), false), makes("/%61", true), makes(letters(1025), false),
		removes("a", true), removes("/", false), removes("/x", false), removes("/f", true), removes("/e", false), removes("/a", true), removes("/f/x", true),
		renames("", ""), renames("/x", "/n"), renames("/a", "x"), renames("/a", "/a"), renames("/a", "/a/x"), renames("/f", "/"+letters(256)), renames("/f", "/a."),
		plants("", "n", true), plants("/x", "n", false), plants("/f", "n", true), plants("/", "", true), plants("/", letters(256), true), plants("/", "a/b", false), plants("/", "a", true),
	}
}

// asking are calls that only ask, some of them for nothing.
func asking() []call {
	var l []call
	for _, path := range []string{"/", "/a", "/a/b", "/a/b/c", "/f", "/e", "/" + face90, "/n", "/x/y", "/f/x", "", "/a/", letters(1025)} {
		l = append(l, asked(path)...)
	}
	return append(l, list("/", 1, 2), list("/", 0, 0), list("/", -1, 1), list("/f", 0, 0))
}

// expectOver holds a disk whose power is gone against what was known ahead of
// that.
func (k *disk) expectOver(t *testing.T, sectors string, pending int) {
	t.Helper()
	for _, c := range append(doings(), wrongs()...) {
		if got := c.on(k.f); got != wrong(api.ErrLost) {
			t.Errorf("%d: over: %s = %s", k.enc, c.what, got)
		}
	}
	for _, c := range asking() {
		if got, want := c.on(k.f), c.on(k.m); got != want {
			t.Errorf("%d: over: %s = %s; want %s", k.enc, c.what, got, want)
		}
	}
	if !k.f.Over() || k.f.Room() != k.m.Room() || !tree.Same(k.f.Tree(), k.m.Tree()) {
		t.Errorf("%d: over: Over() = %v, Room() = %d; want %d", k.enc, k.f.Over(), k.f.Room(), k.m.Room())
	}
	if sectorsOf(k.d) != sectors || k.d.Pending() != pending {
		t.Errorf("%d: over: the device has changed, by %d that are pending", k.enc, k.d.Pending())
	}
}

// P17.3: each call that does something meets that power is gone; from then on
// all are ErrLost, ahead of any other error, behind a restart, too, and what
// only asks still answers.
func TestLost(t *testing.T) {
	for enc := range encodings {
		for _, c := range doings() {
			k := small(t, 60, enc)
			k.do(t, makes("/a/b/n", false))
			k.d.Cut(0)
			if k.f.Over() {
				t.Errorf("%d: it is over already", enc)
			}
			if got := c.on(k.f); got != wrong(api.ErrLost) {
				t.Errorf("%d: %s = %s", enc, c.what, got)
			}
			k.expectOver(t, sectorsOf(k.d), 1)
			k.d.Restart(0)
			k.expectOver(t, sectorsOf(k.d), 0)
			k.remount(t)
			k.expect(t, lookup("/a/b/n"), answer{node: 7})
			k.expectState(t)
			k.try(t, c)
		}
	}
}

// P17.3: a deed whose first frames were written yet isn't done.
func TestLostWithin(t *testing.T) {
	for enc := range encodings {
		for _, c := range []call{makes("/"+letters(255), true), renames("/a/b", "/"+letters(255)), plants("/a", stars(255), false), removes("/"+face90, false)} {
			for writes := range 5 {
				k := small(t, 60, enc)
				before := k.m.clone()
				want := c.on(k.m)
				k.d.Cut(writes)
				got := c.on(k.f)
				if got == want {
					if need := before.Room() - k.m.Room(); writes < need {
						t.Errorf("%d: of %d frames %d were written: %s = %s", enc, need, writes, c.what, got)
					}
					continue
				}
				if got != wrong(api.ErrLost) {
					t.Errorf("%d: %s = %s", enc, c.what, got)
				}
				k.m = before
				k.m.used -= k.f.Room() - k.m.Room()
				k.expectOver(t, sectorsOf(k.d), writes)
				k.d.Restart()
				k.expectOver(t, sectorsOf(k.d), 0)
			}
		}
	}
}

// P17.3: power goes at any write of a renewal: the tree is as it was, and what
// is mounted, too.
func TestLostRenewing(t *testing.T) {
	for _, enc := range []int{api.Latin1, api.HFS} {
		met := 0
		for writes, lost := 0, true; lost; writes++ {
			k := filled(t, 30, enc)
			before := k.m.clone()
			k.d.Cut(writes)
			got := renames("/a", "/renamed").on(k.f)
			lost = got != answer{}
			if !lost {
				break
			}
			met++
			if got != wrong(api.ErrLost) || !k.f.Over() || !tree.Same(k.f.Tree(), before.Tree()) {
				t.Errorf("%d: behind %d writes: %s", enc, writes, got)
			}
			pending := k.d.Pending()
			k.d.Restart()
			if got := lookup("/a").on(k.f); got != (answer{node: 1, is: true}) {
				t.Errorf("%d: behind %d writes: Lookup = %s", enc, writes, got)
			}
			if f := mount(t, k.d, enc); !tree.Same(f.Tree(), before.Tree()) {
				t.Errorf("%d: behind %d writes, of which %d are lost: another tree is mounted", enc, writes, pending)
			}
		}
		if met < 6 {
			t.Errorf("%d: a renewal has only %d writes", enc, met)
		}
	}
}

// filled is a small disk whose bank has no room, by what was renamed, though an
// image of it has; all is safe.
func filled(t *testing.T, sectors, enc int) *disk {
	t.Helper()
	k := small(t, sectors, enc)
	for n := 0; k.f.Room() > 0; n++ {
		k.do(t, renames("/a/b/c", "/a/b/d"), renames("/a/b/d", "/a/b/c"))
		if k.f.Room() == 1 {
			k.do(t, renames("/f", "/a/f"))
		}
	}
	k.do(t, syncs())
	return k
}

// P17.3: Over hangs on what was met: till then each call that goes wrong tells
// its own error, and what asks meets nothing.
func TestLostNotMet(t *testing.T) {
	for enc := range encodings {
		k := small(t, 60, enc)
		k.d.Cut(0)
		for _, c := range append(asking(), wrongs()...) {
			if got, want := c.on(k.f), c.on(k.m); got != want || k.f.Over() {
				t.Errorf("%d: %s = %s; want %s", enc, c.what, got, want)
			}
		}
		if got := makes("/n", true).on(k.f); got != wrong(api.ErrLost) || !k.f.Over() {
			t.Errorf("%d: Make = %s", enc, got)
		}
	}
}

// P17.3, P1: on the least device nothing has room; all that is asked ahead of
// that is told.
func TestFullFromTheBeginning(t *testing.T) {
	for enc := range encodings {
		for _, sectors := range []int{4, 5} {
			k := fresh(t, sectors, enc)
			k.expectWrong(t, api.ErrFull, makes("/a", true), makes("/b", false), plants("/", "a", true), plants("/", stars(90), false))
			k.expectWrong(t, api.ErrName, makes("/%61", true), plants("/", "", true))
			k.expectWrong(t, api.ErrNone, removes("/a", true), renames("/a", "/b"), lookup("/a"))
			k.expectWrong(t, api.ErrArg, makes("/", true), plants("/", letters(256), true))
			k.expectWrong(t, api.ErrLong, makes("/"+letters(256), true))
			k.expectNames(t, "/")
			k.expect(t, syncs(), answer{})
			k.expectMounted(t)
		}
	}
}

// P17.3, P1: where there is no room any more, for whatever is done, all that was
// there is, and is mounted.
func TestFull(t *testing.T) {
	for enc := range encodings {
		k := fresh(t, 6, enc)
		k.do(t, makes("/a", true), makes("/a/b", false), makes("/c", false))
		full := []call{makes("/n", true), makes("/a/n", false), plants("/", "n", false), plants("/a", stars(90), true), removes("/a/b", false), removes("/c", false), renames("/a", "/n"), renames("/c", "/a/c")}
		for range 2 {
			k.expectWrong(t, api.ErrFull, full...)
			k.expectWrong(t, api.ErrExists, makes("/a", true), plants("/", "a", false), renames("/c", "/a"))
			k.expectWrong(t, api.ErrNotEmpty, removes("/a", true))
			k.expectWrong(t, api.ErrDir, removes("/a", false))
			k.expectWrong(t, api.ErrNotDir, removes("/c", true), makes("/c/n", true), plants("/c", "n", true))
			k.expectWrong(t, api.ErrLoop, renames("/a", "/a/n"))
			k.expectWrong(t, api.ErrName, makes("/%61", true), plants("/", "a/b", true), renames("/c", "/a."))
			k.expectWrong(t, api.ErrArg, plants("/", letters(256), true))
			k.expectNode(t, "/a/b", 2, false, "b")
			k.expectNames(t, "/", "a", "c")
			k.do(t, syncs())
			k.remount(t)
			k.expectMounted(t)
		}
	}
}

// P17.3: what is too long has no room, and what is shorter has; where something
// is taken away there is room again.
func TestFullOfSome(t *testing.T) {
	for enc := range encodings {
		k := fresh(t, 16, enc)
		k.do(t, makes("/"+letters(120), false), makes("/"+letters(121), false))
		k.expectWrong(t, api.ErrFull, makes("/"+letters(122), false), plants("/", stars(122), true))
		k.expect(t, makes("/a", true), answer{node: 3})
		k.expectNames(t, "/", letters(120), letters(121), "a")
		k.expectWrong(t, api.ErrFull, makes("/a/"+letters(122), false), removes("/"+letters(120), false))
		k.expectMounted(t)
		k = fresh(t, 20, enc)
		k.do(t, makes("/"+letters(120), false), makes("/"+letters(121), false))
		k.do(t, makes("/a", true), makes("/b", true))
		k.expectWrong(t, api.ErrFull, makes("/"+letters(200), false))
		k.do(t, removes("/"+letters(120), false), makes("/"+letters(200), false))
		k.expectMounted(t)
	}
}

// P1: on devices of many sizes something is made as long as there is room, by
// what the frames of the image and of the deed come to.
func TestFullJustWhereItIs(t *testing.T) {
	for sectors := 4; sectors < 70; sectors++ {
		enc := sectors % encodings
		k := fresh(t, sectors, enc)
		full := 0
		for n := 0; full < 6; n++ {
			name := strconv.Itoa(n)
			c := makes("/"+name, n%3 == 0)
			switch n % 4 {
			case 1:
				c = plants("/", name+stars(88+n%7), false)
			case 2:
				c = makes("/"+name+letters(n*7%200), true)
			}
			if k.try(t, c).err == api.ErrFull {
				full++
			}
		}
		k.expectMounted(t)
	}
}
