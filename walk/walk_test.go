package walk_test

import (
	"fmt"
	"math"
	"slices"
	"strings"
	"testing"

	"toponym/api"
	"toponym/faces"
	"toponym/tree"
	"toponym/walk"
)

const encodings = 9

func noEncodings() []int {
	return []int{-1, 9, 10, 255, 256, math.MinInt, math.MaxInt, 1 << 32, 1<<32 + 8}
}

// stars would be presented by three bytes each: from 86 on they are long.
func stars(n int) string {
	return strings.Repeat("*", n)
}

func letters(n int) string {
	return strings.Repeat("a", n)
}

// of is a path of these names.
func of(names ...string) string {
	if len(names) == 0 {
		return "/"
	}
	return "/" + strings.Join(names, "/")
}

// times is a row of a name that stands in it so often.
func times(n int, name string) []string {
	return slices.Repeat([]string{name}, n)
}

// drawer picks numbers from 0 on by a small sum.
func drawer() func(below int) int {
	state := uint32(1)
	return func(below int) int {
		state = state*1664525 + 1013904223
		return int(state>>16) % below
	}
}

// link puts an entry of that Short, whether it fits or not.
func link(t *testing.T, tr *tree.Tree, dir int, raw string, isDir bool, number int) int {
	t.Helper()
	n, err := tr.Link(dir, raw, isDir, number)
	if err != api.OK {
		t.Fatalf("Link(%d, % x, %v, %d) = %d", dir, raw, isDir, number, err)
	}
	return n
}

// plant puts an entry of the Short that fits.
func plant(t *testing.T, enc int, tr *tree.Tree, dir int, raw string, isDir bool) int {
	t.Helper()
	l, err := tr.List(dir)
	if err != api.OK {
		t.Fatalf("List(%d) = %d", dir, err)
	}
	return link(t, tr, dir, raw, isDir, faces.Pick(enc, l, raw))
}

// small is a tree by whose names it can't be told which encoding it has: a
// directory a with a directory b with a file c, and a file f.
func small(t *testing.T) *tree.Tree {
	t.Helper()
	tr := tree.New()
	link(t, tr, 0, "a", true, 0)
	link(t, tr, 1, "b", true, 0)
	link(t, tr, 2, "c", false, 0)
	link(t, tr, 0, "f", false, 0)
	return tr
}

// shown is a path in a test's words: not too much of one that is very long.
func shown(path string) string {
	if len(path) < 200 {
		return fmt.Sprintf("%+q", path)
	}
	return fmt.Sprintf("%+q and so on, of %d bytes", path[:100], len(path))
}

func expectSplit(t *testing.T, path string, want ...string) {
	t.Helper()
	if names, err := walk.Split(path); !slices.Equal(names, want) || err != api.OK {
		t.Errorf("Split(%s) = %+q, %d; want %+q", shown(path), names, err, want)
	}
}

func expectNoSplit(t *testing.T, path string, want api.Errno) {
	t.Helper()
	if names, err := walk.Split(path); len(names) != 0 || err != want {
		t.Errorf("Split(%s) = %+q, %d; want %d", shown(path), names, err, want)
	}
}

func expectNode(t *testing.T, enc int, tr *tree.Tree, path string, want int, isDir bool) {
	t.Helper()
	if n, is, err := walk.Node(enc, tr, path); n != want || is != isDir || err != api.OK {
		t.Errorf("Node(%d, %s) = %d, %v, %d; want %d, %v", enc, shown(path), n, is, err, want, isDir)
	}
}

func expectNoNode(t *testing.T, enc int, tr *tree.Tree, path string, want api.Errno) {
	t.Helper()
	if n, is, err := walk.Node(enc, tr, path); n != 0 || is || err != want {
		t.Errorf("Node(%d, %s) = %d, %v, %d; want %d", enc, shown(path), n, is, err, want)
	}
}

func expectParent(t *testing.T, enc int, tr *tree.Tree, path string, want int, last string) {
	t.Helper()
	if n, name, err := walk.Parent(enc, tr, path); n != want || name != last || err != api.OK {
		t.Errorf("Parent(%d, %s) = %d, %+q, %d; want %d, %+q", enc, shown(path), n, name, err, want, last)
	}
}

func expectNoParent(t *testing.T, enc int, tr *tree.Tree, path string, want api.Errno) {
	t.Helper()
	if n, name, err := walk.Parent(enc, tr, path); n != 0 || name != "" || err != want {
		t.Errorf("Parent(%d, %s) = %d, %+q, %d; want %d", enc, shown(path), n, name, err, want)
	}
}

// P15.1, P15.2: the chapter's examples, and what they mean in a tree.
func TestExamples(t *testing.T) {
	expectSplit(t, "/a/b", "a", "b")
	expectNoSplit(t, "/a/", api.ErrName)
	for enc := range encodings {
		tr := small(t)
		expectNode(t, enc, tr, "/a/b", 2, true)
		expectParent(t, enc, tr, "/a/b", 1, "b")
		expectNoNode(t, enc, tr, "/a/", api.ErrName)
		expectNoParent(t, enc, tr, "/a/", api.ErrName)
	}
}

// R4, R5: a tree that is asked is as it was, whatever the answer is.
func TestTreeStays(t *testing.T) {
	for enc := range encodings {
		tr := small(t)
		before := tr.Clone()
		for _, path := range []string{"/", "/a", "/a/b", "/a/b/c", "/f", "/f/x", "/x", "/x/y", "/a/b/c/d/e", "", "a", "/..", "/a/", of(times(17, "a")...), of(letters(1024))} {
			walk.Split(path)
			walk.Node(enc, tr, path)
			walk.Parent(enc, tr, path)
			if !tree.Same(tr, before) || tr.Nodes() != before.Nodes() {
				t.Fatalf("%d: %s changed the tree", enc, shown(path))
			}
		}
		if n := link(t, tr, 2, "z", false, 0); n != 5 || tr.Cookie() != 6 {
			t.Errorf("%d: the tree goes on with %d, %d", enc, n, tr.Cookie())
		}
	}
}

// R5: names that were answered belong to whoever has them: what is done to them
// isn't seen in other answers.
func TestNamesAreNew(t *testing.T) {
	path := "/one/two/three"
	first, _ := walk.Split(path)
	second, _ := walk.Split(path)
	for i := range first {
		first[i] = "changed"
	}
	first = append(first[:1], "more")
	if !slices.Equal(second, []string{"one", "two", "three"}) || path != "/one/two/three" {
		t.Errorf("the names are %+q, of %+q", second, path)
	}
	expectSplit(t, path, "one", "two", "three")
	root, _ := walk.Split("/")
	_ = append(root, "more")
	expectSplit(t, "/")
}

// R7: two trees don't hang on one another, nor on what was asked ahead; each
// call sees the tree as it is now.
func TestTreesAlone(t *testing.T) {
	for enc := range encodings {
		a, b := small(t), tree.New()
		expectNoNode(t, enc, b, "/a", api.ErrNone)
		expectNode(t, enc, a, "/a", 1, true)
		link(t, b, 0, "x", false, 0)
		link(t, b, 0, "a", false, 0)
		expectNode(t, enc, b, "/a", 2, false)
		expectNode(t, enc, a, "/a", 1, true)
		expectNoNode(t, enc, b, "/a/b", api.ErrNotDir)
		expectNode(t, enc, a, "/a/b", 2, true)
		if err := a.Move(1, "b", 0, "z", 0); err != api.OK {
			t.Fatal(err)
		}
		expectNoNode(t, enc, a, "/a/b", api.ErrNone)
		expectNode(t, enc, a, "/z", 2, true)
		expectNode(t, enc, a, "/z/c", 3, false)
		if err := a.Unlink(2, "c", false); err != api.OK {
			t.Fatal(err)
		}
		expectNoNode(t, enc, a, "/z/c", api.ErrNone)
		expectParent(t, enc, a, "/z/c", 2, "c")
	}
}

// P15.2: in what is no encoding no entry has a name for its face, but a short
// one is that of bytes; the root needs no face.
func TestNoEncoding(t *testing.T) {
	tr := small(t)
	link(t, tr, 0, stars(90), true, 1)
	link(t, tr, 5, "x", false, 0)
	for _, enc := range noEncodings() {
		expectNode(t, enc, tr, "/", 0, true)
		expectNoNode(t, enc, tr, "/a", api.ErrNone)
		expectNoNode(t, enc, tr, "/f", api.ErrNone)
		expectNode(t, enc, tr, "/%~a99fd875-1", 5, true)
		expectNoNode(t, enc, tr, "/%~a99fd875-1/x", api.ErrNone)
		expectParent(t, enc, tr, "/a", 0, "a")
		expectParent(t, enc, tr, "/%~a99fd875-1/x", 5, "x")
		expectNoParent(t, enc, tr, "/a/b", api.ErrNone)
		expectNoParent(t, enc, tr, "/", api.ErrArg)
		expectNoNode(t, enc, tr, "", api.ErrName)
	}
}

// R1: a tree that nobody made has nothing that a step could find.
func TestNobodyMade(t *testing.T) {
	for enc := range encodings {
		tr := new(tree.Tree)
		expectNode(t, enc, tr, "/", 0, true)
		expectNoNode(t, enc, tr, "/a", api.ErrNone)
		expectNoNode(t, enc, tr, "/a/b", api.ErrNone)
		expectParent(t, enc, tr, "/a", 0, "a")
		expectNoParent(t, enc, tr, "/a/b", api.ErrNone)
		expectNoParent(t, enc, tr, "/", api.ErrArg)
	}
}
