package tree_test

import (
	"maps"
	"math"
	"slices"
	"strings"
	"testing"

	"toponym/api"
	"toponym/tree"
)

// lists are directories' entries, by the directories' numbers.
type lists = map[int][]api.Entry

func aFile(name string, n int, cookie int64) api.Entry {
	return api.Entry{Name: name, Node: n, Cookie: cookie}
}

func aDir(name string, n int, cookie int64) api.Entry {
	return api.Entry{Name: name, Node: n, Dir: true, Cookie: cookie}
}

// farOff are numbers of no node, some of them like a node's by their lower bits.
func farOff() []int {
	return []int{
		-1, -2, -3, -200, -201, -255, -256, math.MinInt32, -1 << 32, -1<<32 + 1, math.MinInt, math.MinInt + 1,
		201, 202, 255, 256, 257, 259, 1000, 65536, 65537, math.MaxInt32, 1 << 32, 1<<32 + 1, math.MaxInt - 1, math.MaxInt,
	}
}

// sample has directories 0, 1, 3, 5 and 6, of which 3 is empty, and files 2, 4,
// 7 and 8; its next cookie is 9. It is made anew for each who asks.
func sample() lists {
	return lists{
		0: {aDir("a", 1, 1), aFile("b", 2, 2), aDir("c", 3, 3)},
		1: {aFile("a", 4, 4), aDir("d", 5, 5)},
		3: {},
		5: {aDir("e", 6, 6), aFile("f", 7, 7)},
		6: {aFile("g", 8, 8)},
	}
}

const sampleCookie = 9

func link(t *testing.T, tr *tree.Tree, dir int, name string, isDir bool, short, want int) {
	t.Helper()
	if n, err := tr.Link(dir, name, isDir, short); n != want || err != api.OK {
		t.Errorf("Link(%d, %q, %t, %d) = %d, %d; want %d", dir, name, isDir, short, n, err, want)
	}
}

func unlink(t *testing.T, tr *tree.Tree, dir int, name string, isDir bool) {
	t.Helper()
	if err := tr.Unlink(dir, name, isDir); err != api.OK {
		t.Errorf("Unlink(%d, %q, %t) = %d", dir, name, isDir, err)
	}
}

func move(t *testing.T, tr *tree.Tree, dir int, name string, to int, as string, short int) {
	t.Helper()
	if err := tr.Move(dir, name, to, as, short); err != api.OK {
		t.Errorf("Move(%d, %q, %d, %q, %d) = %d", dir, name, to, as, short, err)
	}
}

// linked is the sample, link by link.
func linked(t *testing.T) *tree.Tree {
	t.Helper()
	tr := tree.New()
	link(t, tr, 0, "a", true, 0, 1)
	link(t, tr, 0, "b", false, 0, 2)
	link(t, tr, 0, "c", true, 0, 3)
	link(t, tr, 1, "a", false, 0, 4)
	link(t, tr, 1, "d", true, 0, 5)
	link(t, tr, 5, "e", true, 0, 6)
	link(t, tr, 5, "f", false, 0, 7)
	link(t, tr, 6, "g", false, 0, 8)
	return tr
}

func made(t *testing.T, cookie int64, dirs lists) *tree.Tree {
	t.Helper()
	tr, err := tree.Make(cookie, dirs)
	if err != api.OK || tr == nil {
		t.Fatalf("Make(%d, %v) = %t, %d; want a tree", cookie, dirs, tr != nil, err)
	}
	return tr
}

// listsOf is what a tree's directories have.
func listsOf(t *testing.T, tr *tree.Tree) lists {
	t.Helper()
	dirs := lists{}
	for _, dir := range tr.Dirs() {
		l, err := tr.List(dir)
		if err != api.OK {
			t.Errorf("List(%d) = %d of one of Dirs()", dir, err)
		}
		dirs[dir] = l
	}
	return dirs
}

// expectNoList is of what is no directory.
func expectNoList(t *testing.T, tr *tree.Tree, n int, want api.Errno) {
	t.Helper()
	if l, err := tr.List(n); len(l) > 0 || err != want {
		t.Errorf("List(%d) = %v, %d; want %d", n, l, err, want)
	}
	expectNotFound(t, tr, n, "a", want)
	expectNotFound(t, tr, n, "", want)
}

func expectNotFound(t *testing.T, tr *tree.Tree, dir int, name string, want api.Errno) {
	t.Helper()
	if e, err := tr.Find(dir, name); e != (api.Entry{}) || err != want {
		t.Errorf("Find(%d, %q) = %v, %d; want %d", dir, name, e, err, want)
	}
}

// expectTree holds all that is to be seen of a tree against what its
// directories should have.
func expectTree(t *testing.T, tr *tree.Tree, cookie int64, dirs lists) {
	t.Helper()
	files := map[int]bool{}
	nodes := 0
	for dir, want := range dirs {
		if l, err := tr.List(dir); !slices.Equal(l, want) || err != api.OK {
			t.Errorf("List(%d) = %v, %d; want %v", dir, l, err, want)
		}
		for _, e := range want {
			if found, err := tr.Find(dir, e.Name); found != e || err != api.OK {
				t.Errorf("Find(%d, %q) = %v, %d; want %v", dir, e.Name, found, err, e)
			}
			files[e.Node] = !e.Dir
			nodes++
		}
	}
	for n := -2; n <= api.MaxNodes+2; n++ {
		if _, isDir := dirs[n]; isDir {
			continue
		}
		if files[n] {
			expectNoList(t, tr, n, api.ErrNotDir)
		} else {
			expectNoList(t, tr, n, api.ErrNone)
		}
	}
	if l := tr.Dirs(); !slices.Equal(l, slices.Sorted(maps.Keys(dirs))) {
		t.Errorf("Dirs() = %v; want those of %v", l, dirs)
	}
	if n := tr.Nodes(); n != nodes {
		t.Errorf("Nodes() = %d; want %d", n, nodes)
	}
	if c := tr.Cookie(); c != cookie {
		t.Errorf("Cookie() = %d; want %d", c, cookie)
	}
}

func expectSample(t *testing.T, tr *tree.Tree) {
	t.Helper()
	expectTree(t, tr, sampleCookie, sample())
}

// P10.1: a new tree is a root alone.
func TestNew(t *testing.T) {
	expectTree(t, tree.New(), 1, lists{0: nil})
	for _, n := range farOff() {
		expectNoList(t, tree.New(), n, api.ErrNone)
	}
}

// P10.1: the root, directories below it, files, and no nodes.
func TestList(t *testing.T) {
	tr := linked(t)
	expectSample(t, tr)
	for _, n := range farOff() {
		expectNoList(t, tr, n, api.ErrNone)
	}
	for _, n := range []int{2, 4, 7, 8} {
		expectNoList(t, tr, n, api.ErrNotDir)
	}
	for _, n := range []int{9, 10, 199, 200} {
		expectNoList(t, tr, n, api.ErrNone)
	}
	expectSample(t, made(t, sampleCookie, sample()))
}

// P10.1: a name that is there, one that isn't, and one that is in another
// directory.
func TestFind(t *testing.T) {
	tr := linked(t)
	for dir, names := range map[int]string{0: "abc", 1: "ad", 3: "", 5: "ef", 6: "g"} {
		for _, name := range strings.Split("abcdefg", "") {
			e, err := tr.Find(dir, name)
			if !strings.Contains(names, name) {
				expectNotFound(t, tr, dir, name, api.ErrNone)
			} else if e.Name != name || err != api.OK {
				t.Errorf("Find(%d, %q) = %v, %d", dir, name, e, err)
			}
		}
		for _, name := range []string{
			"", ".", "..", "/", "a/", "/a", "a/d", "A", "aa", "a ", " a", "a\x00", "\x00", "ab", "z", strings.Repeat("a", 255), strings.Repeat("a", 300),
		} {
			expectNotFound(t, tr, dir, name, api.ErrNone)
		}
	}
}

// P10.1: names are bytes: those that begin alike, or differ in one byte only,
// aren't the same.
func TestFindBytes(t *testing.T) {
	names := []string{
		"a", "aa", "aaa", "A", "a ", " a", "...", ". ", "\x01", "\xff", "\xff\xff", "caf\xe9", "caf\xc3\xa9", "cafe\xcc\x81", "cafe",
		strings.Repeat("a", 254), strings.Repeat("a", 255), strings.Repeat("a", 254) + "b",
	}
	tr := tree.New()
	want := lists{0: nil}
	for i, name := range names {
		link(t, tr, 0, name, false, 0, i+1)
		want[0] = append(want[0], aFile(name, i+1, int64(i+1)))
	}
	expectTree(t, tr, int64(len(names)+1), want)
}

// P10.1: Dirs, Nodes and Cookie, behind each kind of call.
func TestCounts(t *testing.T) {
	tr := tree.New()
	expect := func(nodes int, cookie int64, dirs ...int) {
		t.Helper()
		if n, c, l := tr.Nodes(), tr.Cookie(), tr.Dirs(); n != nodes || c != cookie || !slices.Equal(l, dirs) {
			t.Errorf("%d nodes, %d, %v; want %d, %d, %v", n, c, l, nodes, cookie, dirs)
		}
	}
	expect(0, 1, 0)
	link(t, tr, 0, "f", false, 0, 1)
	expect(1, 2, 0)
	link(t, tr, 0, "d", true, 0, 2)
	expect(2, 3, 0, 2)
	link(t, tr, 2, "e", true, 0, 3)
	expect(3, 4, 0, 2, 3)
	tr.Link(2, "e", true, 0)
	tr.Unlink(0, "d", true)
	tr.Move(0, "d", 3, "x", 0)
	tr.List(0)
	tr.Find(0, "f")
	expect(3, 4, 0, 2, 3)
	move(t, tr, 2, "e", 0, "e", 0)
	expect(3, 5, 0, 2, 3)
	move(t, tr, 0, "f", 0, "g", 0)
	expect(3, 6, 0, 2, 3)
	unlink(t, tr, 0, "g", false)
	expect(2, 6, 0, 2, 3)
	unlink(t, tr, 0, "d", true)
	expect(1, 6, 0, 3)
	link(t, tr, 3, "x", true, 0, 1)
	expect(2, 7, 0, 1, 3)
	tr.Clone().Link(0, "y", true, 0)
	expect(2, 7, 0, 1, 3)
	unlink(t, tr, 3, "x", true)
	unlink(t, tr, 0, "e", true)
	expect(0, 7, 0)
}

// R5: what List and Dirs give, and Find, can be changed, its spare room, too.
func TestAnswersAreNew(t *testing.T) {
	tr := linked(t)
	for range 3 {
		for _, dir := range tr.Dirs() {
			l, _ := tr.List(dir)
			l = l[:cap(l)]
			for i := range l {
				l[i] = aFile("changed", 100, 100)
			}
			again, _ := tr.List(dir)
			again = append(again, aFile("more", 100, 100))
			slices.Reverse(again)
		}
		dirs := tr.Dirs()
		slices.Reverse(dirs[:cap(dirs)])
		e, _ := tr.Find(0, "a")
		e.Name, e.Node = "changed", 100
		expectSample(t, tr)
	}
}

// R5: lists that were given stay as they were, whatever comes behind.
func TestAnswersStay(t *testing.T) {
	tr := linked(t)
	given := listsOf(t, tr)
	dirs := tr.Dirs()
	unlink(t, tr, 0, "b", false)
	move(t, tr, 1, "a", 0, "b", 0)
	move(t, tr, 5, "e", 3, "x", 3)
	link(t, tr, 0, "n", true, 0, 2)
	link(t, tr, 5, "n", false, 0, 9)
	unlink(t, tr, 6, "g", false)
	if !maps.EqualFunc(given, sample(), slices.Equal) {
		t.Errorf("the lists became %v", given)
	}
	if !slices.Equal(dirs, []int{0, 1, 3, 5, 6}) {
		t.Errorf("the directories became %v", dirs)
	}
}

// R1: a tree that nobody made has no nodes, and no call on it panics.
func TestNobodyMade(t *testing.T) {
	tr := &tree.Tree{}
	expectTree(t, tr, 0, lists{})
	if n, err := tr.Link(0, "a", true, 0); n != 0 || err != api.ErrNone {
		t.Errorf("Link = %d, %d", n, err)
	}
	if err := tr.Unlink(0, "a", true); err != api.ErrNone {
		t.Errorf("Unlink = %d", err)
	}
	if err := tr.Move(0, "a", 0, "b", 0); err != api.ErrNone {
		t.Errorf("Move = %d", err)
	}
	expectTree(t, tr.Clone(), 0, lists{})
	if !tree.Same(tr, &tree.Tree{}) || tree.Same(tr, tree.New()) || tree.Same(tree.New(), tr) {
		t.Error("Same")
	}
}
