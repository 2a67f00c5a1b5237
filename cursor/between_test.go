package cursor_test

import (
	"slices"
	"strconv"
	"testing"

	"toponym/api"
	"toponym/cursor"
	"toponym/tree"
)

// reader goes through a directory of a tree that others work on.
type reader struct {
	dir, n int
	at     int64
	steady []api.Entry // those of the beginning that were there ever since
	came   []api.Entry
}

func listed(t *testing.T, tr *tree.Tree, dir int) []api.Entry {
	t.Helper()
	l, err := tr.List(dir)
	if err != api.OK {
		t.Fatalf("List(%d) = %d", dir, err)
	}
	return l
}

func begun(t *testing.T, tr *tree.Tree, dir, n int) reader {
	t.Helper()
	return reader{dir: dir, n: n, steady: listed(t, tr, dir)}
}

// saw leaves out of the steady ones what is gone.
func (r reader) saw(t *testing.T, tr *tree.Tree) reader {
	t.Helper()
	l := listed(t, tr, r.dir)
	var steady []api.Entry
	for _, e := range r.steady {
		if slices.Contains(l, e) {
			steady = append(steady, e)
		}
	}
	r.steady = steady
	return r
}

// bit tells whether something came. What came ahead is clipped, as others may
// go on from there, too.
func (r reader) bit(t *testing.T, tr *tree.Tree) (reader, bool) {
	t.Helper()
	l := listed(t, tr, r.dir)
	batch, next, err := cursor.Read(l, r.at, r.n)
	want, wantNext, _ := ruled(l, r.at, r.n)
	if !slices.Equal(batch, want) || next != wantNext || err != api.OK {
		t.Fatalf("Read(%s, %d, %d) = %s, %d, %d; want %s, %d", shown(l), r.at, r.n, shown(batch), next, err, shown(want), wantNext)
	}
	r.came, r.at = append(slices.Clip(r.came), batch...), next
	return r, len(batch) > 0
}

// expectDone goes on till nothing comes, with nothing done between any more,
// which takes no more bits than there are entries.
func (r reader) expectDone(t *testing.T, tr *tree.Tree) {
	t.Helper()
	r = r.saw(t, tr)
	some := true
	for bits := 0; some; bits++ {
		if bits > len(listed(t, tr, r.dir)) {
			t.Fatalf("it doesn't end: there came %s", shown(r.came))
		}
		r, some = r.bit(t, tr)
	}
	r.expectOnce(t)
}

func (r reader) expectOnce(t *testing.T) {
	t.Helper()
	times := map[int64]int{}
	for _, e := range r.came {
		times[e.Cookie]++
		if times[e.Cookie] > 1 {
			t.Errorf("%#v came twice", e)
		}
	}
	for _, e := range r.steady {
		if times[e.Cookie] != 1 || !slices.Contains(r.came, e) {
			t.Errorf("%#v came %d times, of %s", e, times[e.Cookie], shown(r.came))
		}
	}
	if !slices.IsSortedFunc(r.came, func(a, b api.Entry) int { return int(a.Cookie - b.Cookie) }) {
		t.Errorf("there came %s", shown(r.came))
	}
}

// change is something that is done to a tree between two bits; what can't be
// done changes nothing.
type change func(tr *tree.Tree)

// link takes the next name that isn't there.
func link(tr *tree.Tree, dir int, isDir bool) {
	for i := range api.MaxNodes + 1 {
		if _, err := tr.Link(dir, "n"+strconv.Itoa(i), isDir, 0); err != api.ErrExists {
			return
		}
	}
}

// emptied unlinks what can be unlinked.
func emptied(tr *tree.Tree) {
	l, _ := tr.List(0)
	for _, e := range l {
		tr.Unlink(0, e.Name, e.Dir)
	}
}

// changes are of a root with the files a and b, and a directory c with a file d.
func changes() []change {
	return []change{
		func(tr *tree.Tree) {},
		func(tr *tree.Tree) { link(tr, 0, false) },
		func(tr *tree.Tree) { tr.Unlink(0, "a", false) },
		func(tr *tree.Tree) { tr.Unlink(0, "b", false); link(tr, 0, true) },
		func(tr *tree.Tree) { tr.Move(0, "a", 0, "z", 0) },
		func(tr *tree.Tree) { tr.Move(0, "b", 0, "y", 1); tr.Move(0, "y", 0, "b", 0) },
		func(tr *tree.Tree) { tr.Move(0, "c", 0, "x", 0) },
		func(tr *tree.Tree) { tr.Move(0, "b", 3, "b", 0) },
		func(tr *tree.Tree) { tr.Move(3, "d", 0, "d", 0) },
		func(tr *tree.Tree) { tr.Move(3, "b", 0, "b", 0) },
		emptied,
	}
}

func small(t *testing.T) *tree.Tree {
	t.Helper()
	tr := tree.New()
	for i, name := range []string{"a", "b", "c"} {
		if n, err := tr.Link(0, name, i == 2, 0); n != i+1 || err != api.OK {
			t.Fatal(n, err)
		}
	}
	if n, err := tr.Link(3, "d", false, 0); n != 4 || err != api.OK {
		t.Fatal(n, err)
	}
	return tr
}

// explore reads a bit, does each of the changes on a clone, and goes on from
// there.
func explore(t *testing.T, tr *tree.Tree, r reader, all []change, most int, row []int) {
	t.Helper()
	r, _ = r.bit(t, tr)
	if most == 0 {
		r.expectDone(t, tr)
		return
	}
	for i, do := range all {
		other := tr.Clone()
		do(other)
		explore(t, other, r.saw(t, other), all, most-1, append(row, i))
		if t.Failed() {
			t.Fatalf("of the changes %d, in bits of %d", append(row, i), r.n)
		}
	}
}

// P16.2, P5: all rows of up to four changes, one behind each bit: each entry
// that is there all the while comes just once, nothing comes twice, and it ends.
func TestBetweenRows(t *testing.T) {
	for n := 1; n <= 4; n++ {
		tr := small(t)
		explore(t, tr, begun(t, tr, 0, n), changes(), 4, nil)
	}
}

// P16.2: an entry that was read and is moved comes as another one; one that
// wasn't comes once.
func TestBetweenMoved(t *testing.T) {
	for _, x := range []struct {
		moved string
		want  []string
	}{{"a", []string{"a", "b", "c", "z"}}, {"b", []string{"a", "c", "z"}}, {"c", []string{"a", "b", "z"}}} {
		tr := small(t)
		r, _ := begun(t, tr, 0, 1).bit(t, tr)
		if err := tr.Move(0, x.moved, 0, "z", 0); err != api.OK {
			t.Fatal(err)
		}
		r.expectDone(t, tr)
		var names []string
		for _, e := range append(r.came, rest(t, listed(t, tr, 0), r.at, 1)...) {
			names = append(names, e.Name)
		}
		if !slices.Equal(names, x.want) {
			t.Errorf("%s was moved: there came %q", x.moved, names)
		}
	}
}

// P16.2: who has come to the end goes on there, if something is linked since; a
// number that is given again is that of another entry.
func TestBetweenBehindEnd(t *testing.T) {
	tr := small(t)
	r, some := begun(t, tr, 0, 64).bit(t, tr)
	if r, some = r.bit(t, tr); some {
		t.Fatalf("there came %s", shown(r.came))
	}
	if err := tr.Unlink(0, "a", false); err != api.OK {
		t.Fatal(err)
	}
	if n, err := tr.Link(0, "a", false, 0); n != 1 || err != api.OK {
		t.Fatal(n, err)
	}
	r, _ = r.bit(t, tr)
	if len(r.came) != 4 || r.came[3] != (api.Entry{Name: "a", Node: 1, Cookie: 5}) {
		t.Errorf("there came %s", shown(r.came))
	}
	r.expectDone(t, tr)
}

// P16.2, P5: as long as an entry comes anew between two bits something comes,
// though never twice; it ends as soon as none does.
func TestBetweenAlways(t *testing.T) {
	for _, n := range []int{1, 2, 3, 63, 64} {
		tr := tree.New()
		for range api.MaxNodes {
			link(tr, 0, false)
		}
		r := begun(t, tr, 0, n)
		some := true
		for bits := 0; some && bits < 2*api.MaxNodes; bits++ {
			r, some = r.bit(t, tr)
			e := listed(t, tr, 0)[0]
			if err := tr.Move(0, e.Name, 0, e.Name+"+", 0); err != api.OK {
				t.Fatal(err)
			}
			r = r.saw(t, tr)
		}
		if !some {
			t.Errorf("by %d there came %s alone", n, shown(r.came))
		}
		r.expectDone(t, tr)
	}
}

// disturb is a call that is drawn, in directories that are drawn; those up to
// keep are left where they are.
func disturb(t *testing.T, tr *tree.Tree, draw func(below int) int, keep int) {
	t.Helper()
	dirs := tr.Dirs()
	dir, to := dirs[draw(len(dirs))], dirs[draw(len(dirs))]
	l := listed(t, tr, dir)
	if len(l) == 0 || draw(3) == 0 {
		link(tr, dir, draw(30) == 0)
		return
	}
	e := l[draw(len(l))]
	if e.Node <= keep {
		return
	}
	if draw(3) > 0 {
		tr.Move(dir, e.Name, to, "m"+strconv.Itoa(draw(60)), draw(2))
	} else {
		tr.Unlink(dir, e.Name, e.Dir)
	}
}

// P16.2, P5: of many readers by turns, in some directories of a tree to which
// calls that are drawn are done all the while.
func TestBetweenDrawn(t *testing.T) {
	const keep = 3
	draw := drawer()
	longest, steadiest := 0, 0
	for range 60 {
		tr := tree.New()
		for i := range keep {
			tr.Link(0, "keep"+strconv.Itoa(i), true, 0)
		}
		for range draw(400) {
			disturb(t, tr, draw, keep)
		}
		var readers []reader
		for i := range 12 {
			readers = append(readers, begun(t, tr, i%(keep+1), 1+draw([]int{3, 10, 64}[i%3])))
		}
		for range 20 {
			for i := range readers {
				for range draw(4) {
					disturb(t, tr, draw, keep)
				}
				readers[i], _ = readers[i].saw(t, tr).bit(t, tr)
			}
		}
		for _, r := range readers {
			r.expectDone(t, tr)
			longest, steadiest = max(longest, len(r.came)), max(steadiest, len(r.steady))
		}
		if t.Failed() {
			t.FailNow()
		}
	}
	if longest < 40 || steadiest < 10 {
		t.Errorf("at most %d came, and %d were there all the while", longest, steadiest)
	}
}
