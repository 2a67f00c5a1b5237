package deed_test

import (
	"slices"
	"strconv"
	"strings"
	"testing"

	"toponym/api"
	"toponym/deed"
	"toponym/tree"
)

// sample has directories 0, 1, 3, 5 and 6, of which 3 is empty, and files 2, 4,
// 7 and 8; it is made by layer 10's own calls.
func sample(t *testing.T) *tree.Tree {
	t.Helper()
	tr := tree.New()
	for i, l := range []struct {
		dir   int
		name  string
		isDir bool
	}{{0, "a", true}, {0, "b", false}, {0, "c", true}, {1, "a", false}, {1, "d", true}, {5, "e", true}, {5, "f", false}, {6, "g", false}} {
		if n, err := tr.Link(l.dir, l.name, l.isDir, 0); n != i+1 || err != api.OK {
			t.Fatalf("Link(%v) = %d, %d", l, n, err)
		}
	}
	return tr
}

// called is layer 10's call itself.
func called(tr *tree.Tree, d deed.Deed) (int, api.Errno) {
	switch d.Kind {
	case 1:
		return tr.Link(d.Dir, d.Name, d.IsDir, d.Short)
	case 2:
		return 0, tr.Unlink(d.Dir, d.Name, d.IsDir)
	}
	return 0, tr.Move(d.Dir, d.Name, d.To, d.As, d.Short)
}

// expectLike asks for what the next call would give, too.
func expectLike(t *testing.T, tr, want *tree.Tree) {
	t.Helper()
	if !tree.Same(tr, want) || tr.Nodes() != want.Nodes() || !slices.Equal(tr.Dirs(), want.Dirs()) {
		t.Errorf("the tree has %d nodes, directories %v, cookie %d; want %d, %v, %d", tr.Nodes(), tr.Dirs(), tr.Cookie(), want.Nodes(), want.Dirs(), want.Cookie())
	}
	next, wantNext := tr.Clone(), want.Clone()
	for range 3 {
		name := strconv.FormatInt(next.Cookie(), 10)
		n, err := next.Link(0, name, true, 0)
		if wantN, wantErr := wantNext.Link(0, name, true, 0); n != wantN || err != wantErr {
			t.Errorf("the next link gives %d, %d; want %d, %d", n, err, wantN, wantErr)
		}
	}
}

func expectDone(t *testing.T, tr *tree.Tree, d deed.Deed, want int) {
	t.Helper()
	if n, err := deed.Do(tr, d); n != want || err != api.OK {
		t.Errorf("Do(%#v) = %d, %d; want %d", d, n, err, want)
	}
}

// expectNotDone asks for the tree, too, as it was.
func expectNotDone(t *testing.T, tr *tree.Tree, d deed.Deed, want api.Errno) {
	t.Helper()
	before := tr.Clone()
	if n, err := deed.Do(tr, d); n != 0 || err != want {
		t.Errorf("Do(%#v) = %d, %d; want %d", d, n, err, want)
	}
	expectLike(t, tr, before)
}

// expectCalled holds Do against Encode's error, and then against layer 10's call
// on a clone; it tells what should have come of it.
func expectCalled(t *testing.T, tr *tree.Tree, d deed.Deed) api.Errno {
	t.Helper()
	if _, err := ruledEncode(d); err != api.OK {
		expectNotDone(t, tr, d, api.ErrArg)
		return api.ErrArg
	}
	other := tr.Clone()
	want, wantErr := called(other, d)
	if wantErr != api.OK {
		expectNotDone(t, tr, d, wantErr)
		return wantErr
	}
	expectDone(t, tr, d, want)
	expectLike(t, tr, other)
	return api.OK
}

func expectList(t *testing.T, tr *tree.Tree, dir int, want ...api.Entry) {
	t.Helper()
	if l, err := tr.List(dir); !slices.Equal(l, want) || err != api.OK {
		t.Errorf("List(%d) = %v, %d; want %v", dir, l, err, want)
	}
}

// P11.2: each kind, a node's number of a link and 0 of the others, and the tree
// behind each of them.
func TestDo(t *testing.T) {
	tr := tree.New()
	a := api.Entry{Name: "a", Node: 1, Dir: true, Cookie: 1}
	b := api.Entry{Name: "caf\xe9", Node: 2, Cookie: 2, Short: 1000000}
	expectDone(t, tr, aLink(0, "a", true, 0), 1)
	expectList(t, tr, 0, a)
	expectDone(t, tr, aLink(1, "caf\xe9", false, 1000000), 2)
	expectList(t, tr, 1, b)
	expectDone(t, tr, aLink(1, "z", true, 7), 3)
	expectList(t, tr, 1, b, api.Entry{Name: "z", Node: 3, Dir: true, Cookie: 3, Short: 7})
	expectDone(t, tr, aMove(1, "caf\xe9", 3, "y", 9), 0)
	expectList(t, tr, 3, api.Entry{Name: "y", Node: 2, Cookie: 4, Short: 9})
	expectDone(t, tr, aMove(1, "z", 0, "caf\xe9", 0), 0)
	expectList(t, tr, 0, a, api.Entry{Name: "caf\xe9", Node: 3, Dir: true, Cookie: 5})
	expectList(t, tr, 1)
	expectDone(t, tr, anUnlink(0, "a", true), 0)
	expectList(t, tr, 0, api.Entry{Name: "caf\xe9", Node: 3, Dir: true, Cookie: 5})
	expectDone(t, tr, anUnlink(3, "y", false), 0)
	expectList(t, tr, 3)
	expectDone(t, tr, aLink(3, "x", false, 0), 1)
	expectDone(t, tr, aLink(0, "w", false, 0), 2)
	expectList(t, tr, 3, api.Entry{Name: "x", Node: 1, Cookie: 6})
	if tr.Cookie() != 8 || tr.Nodes() != 3 {
		t.Errorf("%d nodes, %d", tr.Nodes(), tr.Cookie())
	}
}

// P11.2: each error of layer 10's calls.
func TestDoErrors(t *testing.T) {
	tr := sample(t)
	for _, w := range []struct {
		d    deed.Deed
		want api.Errno
	}{
		{aLink(9, "n", false, 0), api.ErrNone},
		{aLink(200, "n", true, 1), api.ErrNone},
		{aLink(201, "..", true, 1), api.ErrNone},
		{aLink(256, "n", true, 1), api.ErrNone},
		{aLink(65535, "n", false, 1000000), api.ErrNone},
		{aLink(2, "n", true, 0), api.ErrNotDir},
		{aLink(8, "", true, 0), api.ErrNotDir},
		{aLink(0, "", true, 0), api.ErrName},
		{aLink(0, ".", false, 0), api.ErrName},
		{aLink(3, "..", true, 3), api.ErrName},
		{aLink(3, "a/b", true, 0), api.ErrName},
		{aLink(3, "a\x00", false, 0), api.ErrName},
		{aLink(0, "a", true, 0), api.ErrExists},
		{aLink(0, "b", true, 0), api.ErrExists},
		{aLink(6, "g", false, 2), api.ErrExists},
		{anUnlink(9, "a", true), api.ErrNone},
		{anUnlink(65535, "a", false), api.ErrNone},
		{anUnlink(4, "a", true), api.ErrNotDir},
		{anUnlink(0, "x", true), api.ErrNone},
		{anUnlink(3, "", false), api.ErrNone},
		{anUnlink(0, "..", true), api.ErrNone},
		{anUnlink(0, "b", true), api.ErrNotDir},
		{anUnlink(0, "c", false), api.ErrDir},
		{anUnlink(0, "a", false), api.ErrDir},
		{anUnlink(0, "a", true), api.ErrNotEmpty},
		{anUnlink(5, "e", true), api.ErrNotEmpty},
		{aMove(9, "a", 0, "n", 0), api.ErrNone},
		{aMove(65535, "", 65535, "", 0), api.ErrNone},
		{aMove(2, "a", 0, "n", 0), api.ErrNotDir},
		{aMove(0, "x", 2, "..", 0), api.ErrNone},
		{aMove(0, "a", 9, "..", 0), api.ErrNone},
		{aMove(0, "a", 65535, "n", 0), api.ErrNone},
		{aMove(0, "a", 2, "..", 0), api.ErrNotDir},
		{aMove(0, "a", 1, "..", 0), api.ErrName},
		{aMove(0, "a", 0, "", 0), api.ErrName},
		{aMove(0, "a", 1, "a", 0), api.ErrLoop},
		{aMove(0, "a", 6, "g", 0), api.ErrLoop},
		{aMove(5, "e", 6, "n", 0), api.ErrLoop},
		{aMove(0, "a", 0, "a", 0), api.ErrExists},
		{aMove(0, "b", 1, "a", 5), api.ErrExists},
		{aMove(6, "g", 5, "e", 0), api.ErrExists},
	} {
		expectNotDone(t, tr, w.d, w.want)
	}
	expectLike(t, tr, sample(t))
}

// P11.2: Encode's error is ahead of all others, and of what the tree would do.
func TestDoNotSo(t *testing.T) {
	tr := sample(t)
	rights := []deed.Deed{
		aLink(0, "n", true, 0), aLink(9, "n", true, 0), aLink(2, "n", true, 0), aLink(0, "", true, 0), aLink(0, "a", true, 0),
		anUnlink(0, "b", false), anUnlink(9, "b", false), anUnlink(2, "b", false), anUnlink(0, "x", false), anUnlink(0, "b", true), anUnlink(0, "c", false), anUnlink(0, "a", true),
		aMove(0, "a", 3, "n", 0), aMove(9, "a", 3, "n", 0), aMove(2, "a", 3, "n", 0), aMove(0, "x", 3, "n", 0), aMove(0, "a", 9, "n", 0),
		aMove(0, "a", 2, "n", 0), aMove(0, "a", 3, "..", 0), aMove(0, "a", 1, "n", 0), aMove(0, "a", 0, "c", 0),
	}
	isNone := func(d deed.Deed, change func(d *deed.Deed)) {
		t.Helper()
		change(&d)
		expectNotDone(t, tr, d, api.ErrArg)
	}
	for _, d := range rights {
		for _, k := range badKinds() {
			isNone(d, func(d *deed.Deed) { d.Kind = k })
		}
		for _, n := range badNodes() {
			isNone(d, func(d *deed.Deed) { d.Dir = n })
			isNone(d, func(d *deed.Deed) { d.To = n })
		}
		for _, n := range badShorts() {
			isNone(d, func(d *deed.Deed) { d.Short = n })
		}
		for _, name := range badNames() {
			isNone(d, func(d *deed.Deed) { d.Name = name })
			isNone(d, func(d *deed.Deed) { d.As = name })
		}
		switch d.Kind {
		case 2:
			isNone(d, func(d *deed.Deed) { d.Short = 1 })
			fallthrough
		case 1:
			isNone(d, func(d *deed.Deed) { d.To = 3 })
			isNone(d, func(d *deed.Deed) { d.As = "n" })
		case 3:
			isNone(d, func(d *deed.Deed) { d.IsDir = true })
		}
	}
	expectLike(t, tr, sample(t))
}

// P11.2: all deeds of a few directories and names, right and wrong, each on the
// same tree.
func TestDoAll(t *testing.T) {
	dirs := []int{-1, 0, 1, 2, 3, 5, 6, 9, 65535, 65536}
	names := []string{"a", "b", "c", "e", "n", "", "..", strings.Repeat("n", 255), strings.Repeat("n", 256)}
	came := map[api.Errno]int{}
	tr := sample(t)
	do := func(d deed.Deed) {
		x := tr.Clone()
		came[expectCalled(t, x, d)]++
		if t.Failed() {
			t.FailNow()
		}
	}
	for _, dir := range dirs {
		for _, name := range names {
			for _, short := range []int{-1, 0, 3, 1000000, 1000001} {
				do(aLink(dir, name, true, short))
				do(aLink(dir, name, false, short))
			}
			do(anUnlink(dir, name, true))
			do(anUnlink(dir, name, false))
			for i, to := range dirs {
				for _, as := range names {
					do(aMove(dir, name, to, as, i))
				}
			}
		}
	}
	expectLike(t, tr, sample(t))
	for _, err := range []api.Errno{api.OK, api.ErrArg, api.ErrName, api.ErrNone, api.ErrExists, api.ErrDir, api.ErrNotDir, api.ErrNotEmpty, api.ErrLoop} {
		if came[err] == 0 {
			t.Errorf("%d never came", err)
		}
	}
}

// P11.2: as many nodes as may be, and one more.
func TestDoMany(t *testing.T) {
	tr := tree.New()
	for n := range api.MaxNodes {
		expectDone(t, tr, aLink(0, strconv.Itoa(n), n == 0, 0), n+1)
	}
	expectNotDone(t, tr, aLink(0, "n", false, 0), api.ErrMany)
	expectNotDone(t, tr, aLink(1, "n", true, 1000000), api.ErrMany)
	expectNotDone(t, tr, aLink(0, "n", true, 1000001), api.ErrArg)
	expectNotDone(t, tr, aLink(0, "17", true, 0), api.ErrExists)
	expectDone(t, tr, aMove(0, "17", 1, "17", 4), 0)
	expectDone(t, tr, anUnlink(1, "17", false), 0)
	expectDone(t, tr, aLink(1, "n", true, 0), 18)
	expectNotDone(t, tr, aLink(18, "n", true, 0), api.ErrMany)
}

// drawnDeed is of what the tree has, mostly.
func drawnDeed(draw func(n int) int, tr *tree.Tree) deed.Deed {
	dirs := append(tr.Dirs(), draw(210))
	name := func(dir int) string {
		l, _ := tr.List(dir)
		if len(l) == 0 || draw(3) == 0 {
			return strconv.Itoa(draw(9))
		}
		return l[draw(len(l))].Name
	}
	dir, to := dirs[draw(len(dirs))], dirs[draw(len(dirs))]
	d := []deed.Deed{
		aLink(dir, name(dir), draw(3) > 0, draw(4)),
		anUnlink(dir, name(dir), draw(2) == 0),
		aMove(dir, name(dir), to, name(to), draw(4)),
	}[draw(5)%3]
	switch draw(30) {
	case 0:
		d.Kind = draw(5)
	case 1:
		d.Short = 1000000 + draw(2)
	case 2:
		d.IsDir = !d.IsDir
	}
	return d
}

// P11.2, P11.3: of long rows: what is done as it comes again of its bytes is
// done as it was.
func TestDoRows(t *testing.T) {
	draw := drawer()
	came := map[api.Errno]int{}
	for range 20 {
		tr := tree.New()
		for range 500 {
			d := drawnDeed(draw, tr)
			again := tr.Clone()
			err := expectCalled(t, tr, d)
			came[err]++
			if err != api.ErrArg {
				b, _ := deed.Encode(d)
				read, _ := deed.Decode(b)
				deed.Do(again, read)
				expectLike(t, again, tr)
			}
			if t.Failed() {
				t.Fatalf("%#v", d)
			}
		}
	}
	for _, err := range []api.Errno{api.OK, api.ErrArg, api.ErrNone, api.ErrExists, api.ErrDir, api.ErrNotDir, api.ErrNotEmpty, api.ErrLoop} {
		if came[err] < 10 {
			t.Errorf("%d came %d times", err, came[err])
		}
	}
}

// R7: a deed is done to the tree that is handed in, and to no other.
func TestDoAlone(t *testing.T) {
	tr, other := sample(t), sample(t)
	clone := tr.Clone()
	for _, d := range []deed.Deed{aLink(3, "n", true, 2), anUnlink(6, "g", false), aMove(0, "a", 3, "a", 0)} {
		expectCalled(t, tr, d)
		expectLike(t, other, sample(t))
		expectLike(t, clone, sample(t))
	}
}

// R1: a tree that nobody made has no nodes, and no deed on it panics.
func TestDoNobodyMade(t *testing.T) {
	for _, w := range table() {
		expectNotDone(t, &tree.Tree{}, w.d, api.ErrNone)
	}
	expectNotDone(t, &tree.Tree{}, deed.Deed{}, api.ErrArg)
}
