package tree_test

import (
	"math"
	"strconv"
	"strings"
	"testing"

	"toponym/api"
	"toponym/tree"
)

func expectNoLink(t *testing.T, tr *tree.Tree, dir int, name string, isDir bool, short int, want api.Errno) {
	t.Helper()
	if n, err := tr.Link(dir, name, isDir, short); n != 0 || err != want {
		t.Errorf("Link(%d, %q, %t, %d) = %d, %d; want 0, %d", dir, name, isDir, short, n, err, want)
	}
}

// badNames are those that aren't good.
func badNames() []string {
	return []string{
		"", ".", "..", "/", "a/", "/a", "a/b", "\x00", "a\x00", "\x00a", "a\x00b", "./", "../a",
		strings.Repeat("a", 256), strings.Repeat("a", 257), strings.Repeat("a", 511), strings.Repeat("a", 1000), strings.Repeat("\xff", 256),
	}
}

// goodNames are at the edges of those.
func goodNames() []string {
	return []string{
		"a", "...", "....", ".a", "a.", " ", ". ", " .", "\x01", "\x7f", "\x80", "\xff", "\\", "%", "*", "%2f", "\xc0\xaf",
		strings.Repeat("a", 254), strings.Repeat("a", 255), strings.Repeat("\xff", 255), strings.Repeat(".", 255),
	}
}

// badShorts are out of the bounds, some of them in these by their lower bits.
func badShorts() []int {
	return []int{
		-1, -2, -1000000, math.MinInt32, math.MinInt, math.MinInt + 1, -1 << 32, -1<<32 + 1,
		1000001, 1000002, 1 << 24, math.MaxInt32, 1 << 32, 1<<32 + 1, math.MaxInt,
	}
}

func goodShorts() []int {
	return []int{0, 1, 2, 255, 256, 65535, 65536, 999999, 1000000}
}

// full has as many nodes as may be: files but for the first two, which are an
// empty directory and one with all others.
func full(t *testing.T) *tree.Tree {
	t.Helper()
	tr := tree.New()
	link(t, tr, 0, "empty", true, 0, 1)
	link(t, tr, 0, "dir", true, 0, 2)
	for n := 3; n <= api.MaxNodes; n++ {
		link(t, tr, 2, strconv.Itoa(n), false, 0, n)
	}
	return tr
}

// P10.2: files and directories, with the tree's numbers and cookies, one by
// one, in the order in which they came.
func TestLink(t *testing.T) {
	tr := tree.New()
	link(t, tr, 0, "a", true, 0, 1)
	expectTree(t, tr, 2, lists{0: {aDir("a", 1, 1)}, 1: nil})
	link(t, tr, 1, "z", false, 0, 2)
	expectTree(t, tr, 3, lists{0: {aDir("a", 1, 1)}, 1: {aFile("z", 2, 2)}})
	link(t, tr, 1, "a", true, 0, 3)
	expectTree(t, tr, 4, lists{0: {aDir("a", 1, 1)}, 1: {aFile("z", 2, 2), aDir("a", 3, 3)}, 3: nil})
	link(t, tr, 3, "a", false, 7, 4)
	deep := api.Entry{Name: "a", Node: 4, Cookie: 4, Short: 7}
	expectTree(t, tr, 5, lists{0: {aDir("a", 1, 1)}, 1: {aFile("z", 2, 2), aDir("a", 3, 3)}, 3: {deep}})
	link(t, tr, 0, "Z", false, 0, 5)
	expectTree(t, tr, 6, lists{0: {aDir("a", 1, 1), aFile("Z", 5, 5)}, 1: {aFile("z", 2, 2), aDir("a", 3, 3)}, 3: {deep}})
	expectSample(t, linked(t))
}

// P10.2: no node, and a file, whatever else is wrong.
func TestLinkNoDir(t *testing.T) {
	for _, tr := range []*tree.Tree{linked(t), made(t, sampleCookie, sample())} {
		for _, name := range append(badNames(), "a", "new") {
			for _, short := range []int{0, -1, 1000001} {
				for _, n := range farOff() {
					expectNoLink(t, tr, n, name, true, short, api.ErrNone)
				}
				expectNoLink(t, tr, 9, name, true, short, api.ErrNone)
				expectNoLink(t, tr, 200, name, false, short, api.ErrNone)
				expectNoLink(t, tr, 2, name, true, short, api.ErrNotDir)
				expectNoLink(t, tr, 8, name, false, short, api.ErrNotDir)
			}
		}
		expectSample(t, tr)
	}
}

// P10.2: a name that isn't good, ahead of the short.
func TestLinkName(t *testing.T) {
	tr := linked(t)
	for _, name := range badNames() {
		for _, short := range append(badShorts(), 0, 1, 1000000) {
			expectNoLink(t, tr, 0, name, false, short, api.ErrName)
			expectNoLink(t, tr, 3, name, true, short, api.ErrName)
		}
	}
	expectSample(t, tr)
	tr = tree.New()
	for i, name := range goodNames() {
		link(t, tr, 0, name, i%2 == 0, 0, i+1)
	}
}

// P10.2: a short out of its bounds, ahead of a name that is there.
func TestLinkShort(t *testing.T) {
	tr := linked(t)
	for _, short := range badShorts() {
		for _, name := range []string{"a", "b", "new"} {
			expectNoLink(t, tr, 0, name, false, short, api.ErrArg)
			expectNoLink(t, tr, 1, name, true, short, api.ErrArg)
		}
	}
	expectSample(t, tr)
	want := sample()
	for i, short := range goodShorts() {
		name := strconv.Itoa(i)
		link(t, tr, 3, name, false, short, 9+i)
		want[3] = append(want[3], api.Entry{Name: name, Node: 9 + i, Cookie: int64(9 + i), Short: short})
	}
	expectTree(t, tr, int64(9+len(goodShorts())), want)
}

// P10.2: a name that is there already, as whatever it is there.
func TestLinkExists(t *testing.T) {
	tr := linked(t)
	for dir, l := range sample() {
		for _, e := range l {
			for _, short := range goodShorts() {
				expectNoLink(t, tr, dir, e.Name, false, short, api.ErrExists)
				expectNoLink(t, tr, dir, e.Name, true, short, api.ErrExists)
			}
		}
	}
	expectSample(t, tr)
	link(t, tr, 3, "a", false, 0, 9)
	link(t, tr, 6, "a", true, 0, 10)
	link(t, tr, 10, "a", true, 0, 11)
}

// P10.2: as many nodes as may be, and one more; what else is wrong comes ahead
// of that.
func TestLinkMany(t *testing.T) {
	tr := full(t)
	want := listsOf(t, tr)
	for range 3 {
		for _, isDir := range []bool{false, true} {
			expectNoLink(t, tr, 0, "new", isDir, 0, api.ErrMany)
			expectNoLink(t, tr, 1, "new", isDir, 1000000, api.ErrMany)
			expectNoLink(t, tr, 2, "new", isDir, 1, api.ErrMany)
			expectNoLink(t, tr, 2, "100", isDir, 0, api.ErrExists)
			expectNoLink(t, tr, 0, "empty", isDir, 0, api.ErrExists)
			expectNoLink(t, tr, 0, "new", isDir, -1, api.ErrArg)
			expectNoLink(t, tr, 0, "a/", isDir, -1, api.ErrName)
			expectNoLink(t, tr, 200, "a/", isDir, -1, api.ErrNotDir)
			expectNoLink(t, tr, 201, "a/", isDir, -1, api.ErrNone)
		}
	}
	expectTree(t, tr, api.MaxNodes+1, want)
	unlink(t, tr, 2, "200", false)
	link(t, tr, 1, "new", true, 0, 200)
	expectNoLink(t, tr, 200, "new", false, 0, api.ErrMany)
	unlink(t, tr, 2, "77", false)
	link(t, tr, 200, "new", false, 0, 77)
	expectNoLink(t, tr, 200, "newer", false, 0, api.ErrMany)
	if tr.Nodes() != api.MaxNodes {
		t.Errorf("Nodes() = %d", tr.Nodes())
	}
}

// P10.2: likewise, of directories, each in the one ahead of it.
func TestLinkDeep(t *testing.T) {
	tr := tree.New()
	for n := range api.MaxNodes {
		link(t, tr, n, "a", true, 0, n+1)
	}
	expectNoLink(t, tr, api.MaxNodes, "a", true, 0, api.ErrMany)
	expectNoLink(t, tr, 0, "b", false, 0, api.ErrMany)
	want := lists{api.MaxNodes: nil}
	for n := range api.MaxNodes {
		want[n] = []api.Entry{aDir("a", n+1, int64(n+1))}
	}
	expectTree(t, tr, api.MaxNodes+1, want)
}

// P10.2: the least number that is free, and a new cookie, whatever was there.
func TestLinkFree(t *testing.T) {
	tr := linked(t)
	unlink(t, tr, 6, "g", false)
	unlink(t, tr, 0, "b", false)
	unlink(t, tr, 5, "e", true)
	unlink(t, tr, 0, "c", true)
	link(t, tr, 0, "b", true, 0, 2)
	link(t, tr, 0, "x", false, 0, 3)
	link(t, tr, 2, "y", true, 0, 6)
	link(t, tr, 6, "z", false, 0, 8)
	link(t, tr, 0, "c", false, 0, 9)
	expectTree(t, tr, 14, lists{
		0: {aDir("a", 1, 1), aDir("b", 2, 9), aFile("x", 3, 10), aFile("c", 9, 13)},
		1: {aFile("a", 4, 4), aDir("d", 5, 5)},
		2: {aDir("y", 6, 11)},
		5: {aFile("f", 7, 7)},
		6: {aFile("z", 8, 12)},
	})
	unlink(t, tr, 0, "c", false)
	link(t, tr, 0, "c", true, 0, 9)
	unlink(t, tr, 0, "c", true)
	link(t, tr, 0, "c", false, 0, 9)
	if tr.Cookie() != 16 {
		t.Errorf("Cookie() = %d", tr.Cookie())
	}
}

// P10.2: where the greatest cookie was given, there is no number for one more.
func TestLinkLastCookie(t *testing.T) {
	tr := made(t, math.MaxInt64-1, sample())
	link(t, tr, 3, "a", false, 0, 9)
	link(t, tr, 3, "b", false, 0, 10)
	want, _ := tr.List(3)
	if len(want) != 2 || want[0] != aFile("a", 9, math.MaxInt64-1) || want[1] != aFile("b", 10, math.MaxInt64) {
		t.Errorf("List(3) = %v", want)
	}
	before := listsOf(t, tr)
	for range 3 {
		expectNoLink(t, tr, 3, "c", false, 0, api.ErrMany)
		expectNoLink(t, tr, 0, "n", true, 0, api.ErrMany)
		expectNoLink(t, tr, 3, "b", false, 0, api.ErrExists)
		expectNoMove(t, tr, 3, "a", 0, "n", 0, api.ErrMany)
		expectNoMove(t, tr, 0, "b", 3, "b", 0, api.ErrExists)
		expectNoMove(t, tr, 0, "a", 5, "n", 0, api.ErrLoop)
	}
	expectTree(t, tr, tr.Cookie(), before)
	unlink(t, tr, 3, "b", false)
	expectNoLink(t, tr, 3, "b", false, 0, api.ErrMany)
}
