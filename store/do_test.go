package store_test

import (
	"slices"
	"strconv"
	"strings"
	"testing"

	"toponym/api"
	"toponym/deed"
	"toponym/image"
	"toponym/tree"
)

// done is a deed, and the number that it tells.
type done struct {
	d deed.Deed
	n int
}

// table has deeds of each kind, one behind the other.
func table() []done {
	long := strings.Repeat("\xff", api.MaxRaw)
	return []done{
		{aLink(0, "a", true, 0), 1},
		{aLink(1, "caf\xe9", false, 1000000), 2},
		{aLink(1, "z", true, 7), 3},
		{aMove(1, "caf\xe9", 3, "y", 9), 0},
		{aMove(1, "z", 0, "caf\xe9", 0), 0},
		{anUnlink(0, "a", true), 0},
		{aLink(3, long, true, 1), 1},
		{aLink(1, long, false, 0), 4},
		{aMove(1, long, 3, long[1:], 3), 0},
		{anUnlink(3, "y", false), 0},
		{aMove(3, long, 0, long, 0), 0},
		{aLink(0, "x", false, 0), 2},
		{anUnlink(0, long, true), 0},
		{aLink(3, "w", true, 0), 1},
	}
}

// P13.2: each kind, a node's number of a link and 0 of the others, beside what
// stands; the tree behind each of them, and what is mounted then.
func TestDo(t *testing.T) {
	for _, size := range []int{200, 201} {
		d, s := fresh(t, size)
		want, room := tree.New(), size/2-2
		for _, w := range table() {
			do(t, d, s, w.d, w.n)
			called(want, w.d)
			room -= len(frames(written(w.d)))
			expectStore(t, s, room, want)
		}
		expectMounted(t, d, room, want)
	}
}

// P13.2: a deed's bytes are appended, nothing else, and not flushed.
func TestDoSectors(t *testing.T) {
	d, s := fresh(t, 120)
	records := []string{rootAlone}
	for _, w := range table() {
		records = append(records, written(w.d))
		do(t, d, s, w.d, w.n)
		expectSectors(t, d, spread(120, of(1, records...), of(0)))
	}
	expectPending(t, d, len(frames(records...))-1)
	d.Restart()
	expectSectors(t, d, formatted(120))
}

// P13.2: each of layer 11's errors, behind which all is as it was, in the
// vault's first bank and in its second one, safe and pending.
func TestDoErrors(t *testing.T) {
	d, s := started(t, 60, sample()...)
	l := append(undoable(), shapeless()...)
	came := map[api.Errno]int{}
	for _, w := range l {
		expectNotDone(t, d, s, w.d, w.want)
		came[w.want]++
	}
	do(t, d, s, aLink(3, "x", true, 0), 9)
	for _, w := range l {
		expectNotDone(t, d, s, w.d, w.want)
	}
	expectPending(t, d, 1)
	for n := range 20 {
		if _, err := s.Do(aMove(3, "x"+strings.Repeat("x", n), 3, "x"+strings.Repeat("x", n+1), 0)); err != api.OK {
			t.Fatalf("Do = %d", err)
		}
	}
	if sectorsOf(d)[30] != head(2) {
		t.Error("the vault was not renewed")
	}
	for _, w := range l {
		expectNotDone(t, d, s, w.d, w.want)
	}
	for _, err := range []api.Errno{api.ErrArg, api.ErrNone, api.ErrNotDir, api.ErrName, api.ErrExists, api.ErrDir, api.ErrNotEmpty, api.ErrLoop} {
		if came[err] == 0 {
			t.Errorf("%d never came", err)
		}
	}
}

// P13.2: as many nodes as may be, and one more.
func TestDoMany(t *testing.T) {
	d, s := fresh(t, 600)
	for n := range api.MaxNodes {
		if got, err := s.Do(aLink(0, strconv.Itoa(n), n == 0, 0)); got != n+1 || err != api.OK {
			t.Fatalf("Do = %d, %d", got, err)
		}
	}
	expectNotDone(t, d, s, aLink(0, "n", false, 0), api.ErrMany)
	expectNotDone(t, d, s, aLink(1, "n", true, 1000000), api.ErrMany)
	expectNotDone(t, d, s, aLink(0, "17", true, 0), api.ErrExists)
	do(t, d, s, aMove(0, "17", 1, "17", 4), 0)
	do(t, d, s, anUnlink(1, "17", false), 0)
	do(t, d, s, aLink(1, "n", true, 0), 18)
	expectNotDone(t, d, s, aLink(18, "n", true, 0), api.ErrMany)
}

// P13.2: a deed that can't be done is told ahead of a bank that is full, and of
// one that has no room for the image, and renews nothing.
func TestDoErrorsAheadOfFull(t *testing.T) {
	deeds := append(sample(), sized(10, 60), sized(11, 60), sized(12, 60), sized(13, 60))
	for _, more := range []int{0, 1} {
		size := 2 * (2 + len(deeds) + more)
		d, s := started(t, size, deeds...)
		expectStore(t, s, more, behind(deeds...))
		for _, w := range append(undoable(), shapeless()...) {
			expectNotDone(t, d, s, w.d, w.want)
		}
		expectNotDone(t, d, s, aLink(0, "..", true, 0), api.ErrName)
		expectNotDone(t, d, s, aLink(100, strings.Repeat("n", 255), true, 0), api.ErrNone)
	}
}

// P13.2: a vault that is over is told ahead of all.
func TestDoErrorsBehindOver(t *testing.T) {
	d, s := started(t, 60, sample()...)
	d.Cut(0)
	expect(t, "Sync", s.Sync(), api.ErrLost)
	for range 2 {
		for _, w := range append(undoable(), shapeless()...) {
			if n, err := s.Do(w.d); n != 0 || err != api.ErrLost {
				t.Errorf("Do(%#v) = %d, %d; want 0, %d", w.d, n, err, api.ErrLost)
			}
			expectOver(t, s, 20, behind(sample()...))
		}
		d.Restart()
	}
	expectSectors(t, d, spread(60, of(1, append([]string{rootAlone}, allWritten(sample())...)...), of(0)))
}

func allWritten(deeds []deed.Deed) []string {
	var l []string
	for _, d := range deeds {
		l = append(l, written(d))
	}
	return l
}

// P13.1, R5: what is done to what Tree answers changes nothing in the store, and
// what the store does changes nothing in that.
func TestTreeIsAClone(t *testing.T) {
	d, s := started(t, 80, sample()...)
	for _, one := range append(goods(), anUnlink(6, "g", false), aMove(0, "a", 3, "a", 0), aLink(0, "n", true, 0)) {
		first, second := s.Tree(), s.Tree()
		if first == second {
			t.Error("Tree() answers the same one twice")
		}
		was, room, sectors, pending := image.Encode(first), s.Room(), sectorsOf(d), d.Pending()
		if _, err := called(first, one); err != api.OK {
			t.Fatalf("%#v can't be done", one)
		}
		called(first, aLink(3, "more", false, 0))
		called(first, anUnlink(0, "b", false))
		changed := image.Encode(first)
		if image.Encode(second) != was || image.Encode(s.Tree()) != was || s.Room() != room {
			t.Error("what is done to a tree that was answered changes another one, or the store")
		}
		expectSectors(t, d, sectors)
		expectPending(t, d, pending)
		if _, err := s.Do(one); err != api.OK {
			t.Fatalf("Do(%#v) = %d", one, err)
		}
		if image.Encode(second) != was || image.Encode(first) != changed {
			t.Error("what the store does changes a tree that was answered")
		}
		called(second, one)
		expectTree(t, s.Tree(), second)
	}
}

// P13.1, R5: likewise of entries that the tree's clone tells.
func TestTreeEntries(t *testing.T) {
	_, s := started(t, 80, sample()...)
	l, _ := s.Tree().List(0)
	for i := range l {
		l[i] = api.Entry{Name: "changed", Node: 200}
	}
	_ = append(l[:1], api.Entry{Name: "changed"})
	dirs := s.Tree().Dirs()
	dirs[0] = 200
	expectTree(t, s.Tree(), behind(sample()...))
}

// R5: a deed is as it was behind whatever came of it, and other calls leave
// what was told.
func TestDeedsStay(t *testing.T) {
	d, s := started(t, 60, sample()...)
	text := "0123456789n, of a longer text"
	deeds := []deed.Deed{aLink(0, text[10:11], true, 3), aMove(0, text[10:11], 3, text[9:12], 4), anUnlink(3, text[9:12], true), {Kind: 1, To: 9, Name: text}, aLink(100, text, true, 0)}
	for i, one := range deeds {
		was := one
		was.Name, was.As = strings.Clone(one.Name), strings.Clone(one.As)
		s.Do(one)
		if one != was || deeds[i] != was {
			t.Errorf("%#v has become %#v", was, one)
		}
	}
	if text != "0123456789n, of a longer text" {
		t.Errorf("the text has become %q", text)
	}
	want := behind(append(sample(), deeds[:3]...)...)
	expectStore(t, s, 17, want)
	expectMounted(t, d, 17, want)
}

// P13.2, P13.3: a store that is mounted anew behind each deed goes on by the
// same numbers and cookies as one that never is.
func TestGoesOn(t *testing.T) {
	draw := drawer()
	for _, size := range []int{40, 90, 400} {
		a, s := fresh(t, size)
		b, r := fresh(t, size)
		came := map[api.Errno]int{}
		for range 300 {
			one := drawnDeed(draw, s.Tree())
			n, err := s.Do(one)
			if m, other := r.Do(one); n != m || err != other {
				t.Fatalf("Do(%#v) = %d, %d, and %d, %d where it was mounted anew", one, n, err, m, other)
			}
			came[err]++
			r = mount(t, b)
			expectTree(t, r.Tree(), s.Tree())
			if s.Room() != r.Room() || r.Tree().Cookie() != s.Tree().Cookie() {
				t.Errorf("Room() = %d and %d, Cookie() = %d and %d", s.Room(), r.Room(), s.Tree().Cookie(), r.Tree().Cookie())
			}
			if !slices.Equal(sectorsOf(a), sectorsOf(b)) {
				t.Error("the devices differ")
			}
			if t.Failed() {
				t.Fatalf("behind %#v", one)
			}
		}
		if came[api.OK] < 20 || size == 40 && came[api.ErrFull] == 0 {
			t.Errorf("%v", came)
		}
	}
}

// drawnDeed is of what the tree has, mostly.
func drawnDeed(draw func(n int) int, tr *tree.Tree) deed.Deed {
	dirs := append(tr.Dirs(), draw(30))
	name := func(dir int) string {
		l, _ := tr.List(dir)
		if len(l) == 0 || draw(3) == 0 {
			return named(draw(12), 2+draw(3)*draw(60))
		}
		return l[draw(len(l))].Name
	}
	dir, to := dirs[draw(len(dirs))], dirs[draw(len(dirs))]
	d := []deed.Deed{
		aLink(dir, name(dir), draw(2) > 0, draw(4)),
		anUnlink(dir, name(dir), draw(2) == 0),
		aMove(dir, name(dir), to, name(to), draw(4)),
	}[draw(5)%3]
	switch draw(30) {
	case 0:
		d.Kind = draw(5)
	case 1:
		d.Short = 1000000 + draw(2)
	case 2:
		d.IsDir = !d.IsDir
	}
	return d
}
