package tree_test

import (
	"testing"

	"toponym/api"
	"toponym/tree"
)

// P10.3: a clone has the same entries, gives the same numbers and the same
// cookies.
func TestClone(t *testing.T) {
	expectTree(t, tree.New().Clone(), 1, lists{0: nil})
	expectSample(t, linked(t).Clone())
	expectSample(t, made(t, sampleCookie, sample()).Clone().Clone())
	tr := linked(t)
	unlink(t, tr, 6, "g", false)
	unlink(t, tr, 0, "b", false)
	want := listsOf(t, tr)
	c := tr.Clone()
	expectTree(t, c, sampleCookie, want)
	for _, x := range []*tree.Tree{c, tr} {
		link(t, x, 0, "x", true, 0, 2)
		link(t, x, 0, "y", false, 0, 8)
		link(t, x, 0, "z", false, 0, 9)
	}
	expectSame(t, "the same calls", c, tr, true)
	expectNoLink(t, full(t).Clone(), 0, "new", false, 0, api.ErrMany)
}

// changes are calls of each kind on the sample, each of them by itself.
func changes() []func(t *testing.T, tr *tree.Tree) {
	return []func(t *testing.T, tr *tree.Tree){
		func(t *testing.T, tr *tree.Tree) { link(t, tr, 0, "n", false, 0, 9) },
		func(t *testing.T, tr *tree.Tree) { link(t, tr, 3, "n", true, 7, 9) },
		func(t *testing.T, tr *tree.Tree) { link(t, tr, 6, "n", true, 0, 9) },
		func(t *testing.T, tr *tree.Tree) { unlink(t, tr, 0, "b", false) },
		func(t *testing.T, tr *tree.Tree) { unlink(t, tr, 0, "c", true) },
		func(t *testing.T, tr *tree.Tree) { unlink(t, tr, 6, "g", false) },
		func(t *testing.T, tr *tree.Tree) { move(t, tr, 0, "a", 0, "n", 1) },
		func(t *testing.T, tr *tree.Tree) { move(t, tr, 0, "a", 3, "a", 0) },
		func(t *testing.T, tr *tree.Tree) { move(t, tr, 1, "a", 6, "b", 0) },
		func(t *testing.T, tr *tree.Tree) { move(t, tr, 5, "e", 0, "e", 0) },
	}
}

// P10.3: neither's calls change the other, which then gives what it would have.
func TestCloneAlone(t *testing.T) {
	for _, change := range changes() {
		for _, other := range changes() {
			tr := linked(t)
			c := tr.Clone()
			change(t, c)
			expectSample(t, tr)
			changed := c.Clone()
			other(t, tr)
			expectSame(t, "the other one's call", c, changed, true)
			expectTree(t, c, changed.Cookie(), listsOf(t, changed))

			alone := linked(t)
			other(t, alone)
			expectSame(t, "by itself", tr, alone, true)
			expectTree(t, tr, alone.Cookie(), listsOf(t, alone))
		}
	}
}

// P10.3: likewise, in one directory, whatever its number.
func TestCloneNumbers(t *testing.T) {
	for n := 1; n <= api.MaxNodes-2; n++ {
		for _, dir := range []int{0, n, api.MaxNodes} {
			dirs := lists{0: {aDir("a", n, 1), aDir("z", api.MaxNodes, 2)}, n: nil, api.MaxNodes: nil}
			dirs[dir] = append(dirs[dir], aFile("b", n+1, 3))
			tr := made(t, 5, dirs)
			c := tr.Clone()
			move(t, tr, dir, "b", dir, "c", 0)
			expectTree(t, c, 5, dirs)
			unlink(t, tr, dir, "c", false)
			link(t, tr, dir, "d", true, 0, freeOf(listsOf(t, tr))[0])
			expectTree(t, c, 5, dirs)
		}
	}
}

// P10.3: likewise, of long rows in turns, where both have spare room, and
// numbers that wait.
func TestCloneTurns(t *testing.T) {
	tr := linked(t)
	link(t, tr, 6, "h", false, 0, 9)
	link(t, tr, 6, "i", false, 0, 10)
	unlink(t, tr, 6, "h", false)
	unlink(t, tr, 6, "g", false)
	unlink(t, tr, 0, "b", false)
	a, b := tr.Clone(), tr.Clone()
	link(t, a, 6, "x", false, 0, 2)
	link(t, b, 6, "y", false, 0, 2)
	link(t, a, 6, "y", true, 0, 8)
	unlink(t, b, 6, "i", false)
	link(t, b, 6, "x", true, 0, 8)
	move(t, a, 6, "i", 0, "i", 0)
	link(t, b, 0, "b", false, 0, 9)
	link(t, tr, 0, "b", true, 0, 2)
	want := sample()
	delete(want, 6)
	behind := func(x *tree.Tree, cookie int64, last api.Entry, six ...api.Entry) {
		t.Helper()
		want[0] = []api.Entry{aDir("a", 1, 1), aDir("c", 3, 3), last}
		want[6] = six
		expectTree(t, x, cookie, want)
	}
	want[8] = nil
	behind(a, 14, aFile("i", 10, 13), aFile("x", 2, 11), aDir("y", 8, 12))
	behind(b, 14, aFile("b", 9, 13), aFile("y", 2, 11), aDir("x", 8, 12))
	delete(want, 8)
	want[2] = nil
	behind(tr, 12, aDir("b", 2, 11), aFile("i", 10, 10))
}
