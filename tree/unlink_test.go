package tree_test

import (
	"slices"
	"strconv"
	"testing"

	"toponym/api"
	"toponym/tree"
)

func expectNoUnlink(t *testing.T, tr *tree.Tree, dir int, name string, isDir bool, want api.Errno) {
	t.Helper()
	if err := tr.Unlink(dir, name, isDir); err != want {
		t.Errorf("Unlink(%d, %q, %t) = %d; want %d", dir, name, isDir, err, want)
	}
}

// P10.2: what is unlinked isn't there, and nothing else has changed.
func TestUnlink(t *testing.T) {
	tr := linked(t)
	unlink(t, tr, 0, "b", false)
	want := sample()
	want[0] = []api.Entry{aDir("a", 1, 1), aDir("c", 3, 3)}
	expectTree(t, tr, sampleCookie, want)
	unlink(t, tr, 0, "c", true)
	want[0] = want[0][:1]
	delete(want, 3)
	expectTree(t, tr, sampleCookie, want)
	unlink(t, tr, 1, "a", false)
	want[1] = []api.Entry{aDir("d", 5, 5)}
	expectTree(t, tr, sampleCookie, want)
	unlink(t, tr, 6, "g", false)
	want[6] = nil
	expectTree(t, tr, sampleCookie, want)
	unlink(t, tr, 5, "e", true)
	want[5] = []api.Entry{aFile("f", 7, 7)}
	delete(want, 6)
	expectTree(t, tr, sampleCookie, want)
	unlink(t, tr, 5, "f", false)
	unlink(t, tr, 1, "d", true)
	unlink(t, tr, 0, "a", true)
	expectTree(t, tr, sampleCookie, lists{0: nil})
}

// P10.2: Find's errors, whatever is asked for.
func TestUnlinkNone(t *testing.T) {
	tr := linked(t)
	for _, isDir := range []bool{false, true} {
		for _, name := range append(badNames(), "a", "g", "new") {
			for _, n := range farOff() {
				expectNoUnlink(t, tr, n, name, isDir, api.ErrNone)
			}
			expectNoUnlink(t, tr, 9, name, isDir, api.ErrNone)
			expectNoUnlink(t, tr, 200, name, isDir, api.ErrNone)
			expectNoUnlink(t, tr, 2, name, isDir, api.ErrNotDir)
			expectNoUnlink(t, tr, 4, name, isDir, api.ErrNotDir)
			expectNoUnlink(t, tr, 3, name, isDir, api.ErrNone)
		}
		for _, name := range append(badNames(), "d", "e", "f", "g", "A", "aa", "new") {
			expectNoUnlink(t, tr, 0, name, isDir, api.ErrNone)
		}
		expectNoUnlink(t, tr, 1, "b", isDir, api.ErrNone)
		expectNoUnlink(t, tr, 6, "a", isDir, api.ErrNone)
	}
	expectSample(t, tr)
}

// P10.2: a file where a directory is asked for, and the other way about, be it
// empty or not; then a directory that has something.
func TestUnlinkKinds(t *testing.T) {
	tr := linked(t)
	expectNoUnlink(t, tr, 0, "b", true, api.ErrNotDir)
	expectNoUnlink(t, tr, 1, "a", true, api.ErrNotDir)
	expectNoUnlink(t, tr, 6, "g", true, api.ErrNotDir)
	expectNoUnlink(t, tr, 0, "c", false, api.ErrDir)
	expectNoUnlink(t, tr, 0, "a", false, api.ErrDir)
	expectNoUnlink(t, tr, 5, "e", false, api.ErrDir)
	expectNoUnlink(t, tr, 0, "a", true, api.ErrNotEmpty)
	expectNoUnlink(t, tr, 1, "d", true, api.ErrNotEmpty)
	expectNoUnlink(t, tr, 5, "e", true, api.ErrNotEmpty)
	expectSample(t, tr)
}

// P10.2: a directory that has no more, by Unlink or by Move, can go.
func TestUnlinkEmptied(t *testing.T) {
	tr := linked(t)
	move(t, tr, 6, "g", 3, "g", 0)
	expectNoUnlink(t, tr, 0, "c", true, api.ErrNotEmpty)
	unlink(t, tr, 5, "e", true)
	expectNoLink(t, tr, 6, "x", false, 0, api.ErrNone)
	unlink(t, tr, 3, "g", false)
	unlink(t, tr, 0, "c", true)
	expectNoUnlink(t, tr, 0, "c", true, api.ErrNone)
	link(t, tr, 5, "x", true, 0, 3)
	unlink(t, tr, 5, "f", false)
	expectNoUnlink(t, tr, 1, "d", true, api.ErrNotEmpty)
	unlink(t, tr, 5, "x", true)
	unlink(t, tr, 1, "d", true)
	expectTree(t, tr, 11, lists{0: {aDir("a", 1, 1), aFile("b", 2, 2)}, 1: {aFile("a", 4, 4)}})
}

// P10.2: the number is free: no node has it, and it is given anew to one of
// another kind, which has nothing of the one ahead of it.
func TestUnlinkFrees(t *testing.T) {
	tr := linked(t)
	unlink(t, tr, 6, "g", false)
	unlink(t, tr, 5, "e", true)
	expectNoList(t, tr, 6, api.ErrNone)
	expectNoList(t, tr, 8, api.ErrNone)
	link(t, tr, 0, "x", false, 0, 6)
	expectNoList(t, tr, 6, api.ErrNotDir)
	link(t, tr, 0, "y", true, 0, 8)
	expectTree(t, tr, 11, lists{
		0: {aDir("a", 1, 1), aFile("b", 2, 2), aDir("c", 3, 3), aFile("x", 6, 9), aDir("y", 8, 10)},
		1: {aFile("a", 4, 4), aDir("d", 5, 5)},
		3: nil,
		5: {aFile("f", 7, 7)},
		8: nil,
	})
}

// P10.2: of many, from the first on, from the last on, and mixed; the others
// stay in their order.
func TestUnlinkMany(t *testing.T) {
	for _, step := range []int{1, 199, 77} {
		tr := tree.New()
		for n := 1; n <= api.MaxNodes; n++ {
			link(t, tr, 0, strconv.Itoa(n), n%3 == 0, 0, n)
		}
		want := listsOf(t, tr)
		for i := 1; i <= api.MaxNodes; i++ {
			n := i*step%api.MaxNodes + 1
			unlink(t, tr, 0, strconv.Itoa(n), n%3 == 0)
			delete(want, n)
			want[0] = slices.DeleteFunc(want[0], func(e api.Entry) bool { return e.Node == n })
			if i%9 == 0 || i == api.MaxNodes {
				expectTree(t, tr, api.MaxNodes+1, want)
			}
		}
	}
}
