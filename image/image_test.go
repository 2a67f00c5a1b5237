package image_test

import (
	"math"
	"slices"
	"strconv"
	"strings"
	"testing"

	"toponym/api"
	"toponym/image"
	"toponym/tree"
)

// lists are directories' entries, by the directories' numbers.
type lists = map[int][]api.Entry

func aFile(name string, n int, cookie int64) api.Entry {
	return api.Entry{Name: name, Node: n, Cookie: cookie}
}

func aDir(name string, n int, cookie int64) api.Entry {
	return api.Entry{Name: name, Node: n, Dir: true, Cookie: cookie}
}

func made(cookie int64, dirs lists) *tree.Tree {
	tr, err := tree.Make(cookie, dirs)
	if err != api.OK {
		panic("no tree has these entries")
	}
	return tr
}

func link(tr *tree.Tree, dir int, name string, isDir bool, short int) {
	if _, err := tr.Link(dir, name, isDir, short); err != api.OK {
		panic("no link of " + name)
	}
}

func unlink(tr *tree.Tree, dir int, name string, isDir bool) {
	if tr.Unlink(dir, name, isDir) != api.OK {
		panic("no unlink of " + name)
	}
}

func move(tr *tree.Tree, dir int, name string, to int, as string, short int) {
	if tr.Move(dir, name, to, as, short) != api.OK {
		panic("no move of " + name)
	}
}

// sample has directories 0, 1, 3, 5 and 6, of which 3 is empty, and files 2, 4,
// 7 and 8; its next cookie is 9.
func sample() *tree.Tree {
	tr := tree.New()
	link(tr, 0, "a", true, 0)
	link(tr, 0, "b", false, 0)
	link(tr, 0, "c", true, 0)
	link(tr, 1, "a", false, 0)
	link(tr, 1, "d", true, 0)
	link(tr, 5, "e", true, 0)
	link(tr, 5, "f", false, 0)
	link(tr, 6, "g", false, 0)
	return tr
}

// worked has gaps in its numbers and cookies, and a directory that stands in
// one of a greater number.
func worked() *tree.Tree {
	tr := sample()
	unlink(tr, 0, "b", false)
	move(tr, 0, "a", 3, "z", 1000000)
	link(tr, 6, "n", true, 7)
	unlink(tr, 6, "g", false)
	move(tr, 5, "f", 0, "caf\xe9", 0)
	return tr
}

// padded are names of as many bytes as may be, each another one.
func padded(n int) string {
	digits := strconv.Itoa(n)
	return digits + strings.Repeat("*", api.MaxRaw-len(digits))
}

// wide has as many nodes as may be, all in the root, numbers falling.
func wide(isDir bool, name func(n int) string) *tree.Tree {
	dirs := lists{0: nil}
	for n := 1; n <= api.MaxNodes; n++ {
		e := api.Entry{Name: name(n), Node: api.MaxNodes + 1 - n, Dir: isDir, Cookie: int64(n), Short: n % 2 * 1000000}
		dirs[0] = append(dirs[0], e)
		if isDir {
			dirs[e.Node] = nil
		}
	}
	return made(api.MaxNodes+1, dirs)
}

// deep has as many nodes as may be, each directory in the one ahead of it.
func deep(name func(n int) string) *tree.Tree {
	tr := tree.New()
	for n := range api.MaxNodes {
		link(tr, n, name(n), true, 1000000)
	}
	return tr
}

// spread has as many nodes as may be, in turns in all directories there are.
func spread(name func(n int) string) *tree.Tree {
	tr := tree.New()
	for n := range api.MaxNodes {
		dirs := tr.Dirs()
		link(tr, dirs[n%len(dirs)], name(n), n%3 != 1, n)
	}
	return tr
}

// trees are those of the table, and greater ones.
func trees() []*tree.Tree {
	l := []*tree.Tree{wide(false, strconv.Itoa), wide(true, strconv.Itoa), deep(strconv.Itoa), spread(strconv.Itoa), spread(padded)}
	for _, w := range table() {
		l = append(l, w.tree)
	}
	return l
}

// written is a tree, and its image.
type written struct {
	tree  *tree.Tree
	bytes string
}

// table has images that are written out.
func table() []written {
	long := strings.Repeat("n", 254) + "\xff"
	unlinked := tree.New()
	link(unlinked, 0, "a", false, 0)
	unlink(unlinked, 0, "a", false)
	return []written{
		{tree.New(), "\x00\x00\x00\x00\x00\x00\x00\x01\x00\x01\x00\x00\x00\x00"},
		{unlinked, "\x00\x00\x00\x00\x00\x00\x00\x02\x00\x01\x00\x00\x00\x00"},
		{made(0x0102030405060708, lists{0: nil}), "\x01\x02\x03\x04\x05\x06\x07\x08\x00\x01\x00\x00\x00\x00"},
		{made(math.MaxInt64, lists{0: nil}), "\x7f\xff\xff\xff\xff\xff\xff\xff\x00\x01\x00\x00\x00\x00"},
		{made(2, lists{0: {aFile("a", 1, 1)}}), "\x00\x00\x00\x00\x00\x00\x00\x02\x00\x01" +
			"\x00\x00\x00\x01" + "\x01a\x00\x01\x00\x00\x00\x00\x00\x00\x00\x00\x01\x00\x00\x00\x00"},
		{made(2, lists{0: {aDir("a", 1, 1)}, 1: {}}), "\x00\x00\x00\x00\x00\x00\x00\x02\x00\x02" +
			"\x00\x00\x00\x01" + "\x01a\x00\x01\x01\x00\x00\x00\x00\x00\x00\x00\x01\x00\x00\x00\x00" +
			"\x00\x01\x00\x00"},
		{made(math.MaxInt64, lists{0: {{Name: long, Node: 200, Cookie: 0x0203040506070809, Short: 1000000}, {Name: "\x01", Node: 9, Cookie: math.MaxInt64 - 1, Short: 66051}}}), "\x7f\xff\xff\xff\xff\xff\xff\xff\x00\x01" +
			"\x00\x00\x00\x02" + "\xff" + long + "\x00\xc8\x00\x02\x03\x04\x05\x06\x07\x08\x09\x00\x0f\x42\x40" +
			"\x01\x01\x00\x09\x00\x7f\xff\xff\xff\xff\xff\xff\xfe\x00\x01\x02\x03"},
		{sample(), "\x00\x00\x00\x00\x00\x00\x00\x09\x00\x05" +
			"\x00\x00\x00\x03" + "\x01a\x00\x01\x01\x00\x00\x00\x00\x00\x00\x00\x01\x00\x00\x00\x00" +
			"\x01b\x00\x02\x00\x00\x00\x00\x00\x00\x00\x00\x02\x00\x00\x00\x00" +
			"\x01c\x00\x03\x01\x00\x00\x00\x00\x00\x00\x00\x03\x00\x00\x00\x00" +
			"\x00\x01\x00\x02" + "\x01a\x00\x04\x00\x00\x00\x00\x00\x00\x00\x00\x04\x00\x00\x00\x00" +
			"\x01d\x00\x05\x01\x00\x00\x00\x00\x00\x00\x00\x05\x00\x00\x00\x00" +
			"\x00\x03\x00\x00" +
			"\x00\x05\x00\x02" + "\x01e\x00\x06\x01\x00\x00\x00\x00\x00\x00\x00\x06\x00\x00\x00\x00" +
			"\x01f\x00\x07\x00\x00\x00\x00\x00\x00\x00\x00\x07\x00\x00\x00\x00" +
			"\x00\x06\x00\x01" + "\x01g\x00\x08\x00\x00\x00\x00\x00\x00\x00\x00\x08\x00\x00\x00\x00"},
		{worked(), "\x00\x00\x00\x00\x00\x00\x00\x0c\x00\x06" +
			"\x00\x00\x00\x02" + "\x01c\x00\x03\x01\x00\x00\x00\x00\x00\x00\x00\x03\x00\x00\x00\x00" +
			"\x04caf\xe9\x00\x07\x00\x00\x00\x00\x00\x00\x00\x00\x0b\x00\x00\x00\x00" +
			"\x00\x01\x00\x02" + "\x01a\x00\x04\x00\x00\x00\x00\x00\x00\x00\x00\x04\x00\x00\x00\x00" +
			"\x01d\x00\x05\x01\x00\x00\x00\x00\x00\x00\x00\x05\x00\x00\x00\x00" +
			"\x00\x02\x00\x00" +
			"\x00\x03\x00\x01" + "\x01z\x00\x01\x01\x00\x00\x00\x00\x00\x00\x00\x09\x00\x0f\x42\x40" +
			"\x00\x05\x00\x01" + "\x01e\x00\x06\x01\x00\x00\x00\x00\x00\x00\x00\x06\x00\x00\x00\x00" +
			"\x00\x06\x00\x01" + "\x01n\x00\x02\x01\x00\x00\x00\x00\x00\x00\x00\x0a\x00\x00\x00\x07"},
	}
}

// expectLike asks for what the next calls would give, too.
func expectLike(t *testing.T, tr, want *tree.Tree) {
	t.Helper()
	if !tree.Same(tr, want) || tr.Nodes() != want.Nodes() || tr.Cookie() != want.Cookie() || !slices.Equal(tr.Dirs(), want.Dirs()) {
		t.Errorf("the tree has %d nodes, directories %v, cookie %d; want %d, %v, %d", tr.Nodes(), tr.Dirs(), tr.Cookie(), want.Nodes(), want.Dirs(), want.Cookie())
	}
	next, wantNext := tr.Clone(), want.Clone()
	for i := range 3 {
		name := "next" + strconv.Itoa(i)
		n, err := next.Link(0, name, true, 0)
		if wantN, wantErr := wantNext.Link(0, name, true, 0); n != wantN || err != wantErr {
			t.Errorf("the next link gives %d, %d; want %d, %d", n, err, wantN, wantErr)
		}
		e, _ := next.Find(0, name)
		if wantE, _ := wantNext.Find(0, name); e != wantE {
			t.Errorf("the next entry is %v; want %v", e, wantE)
		}
	}
}

func decoded(t *testing.T, b string) *tree.Tree {
	t.Helper()
	tr, err := image.Decode(b)
	if tr == nil || err != api.OK {
		t.Fatalf("Decode(% x) = %t, %d; want a tree", b, tr != nil, err)
	}
	return tr
}

func expectNoTree(t *testing.T, b string) {
	t.Helper()
	if tr, err := image.Decode(b); tr != nil || err != api.ErrForm {
		t.Errorf("Decode of %d bytes, % x.. = %t, %d; want none, %d", len(b), b[:min(len(b), 300)], tr != nil, err, api.ErrForm)
	}
}

// P12.1: images that are written out, and the trees that have them.
func TestTable(t *testing.T) {
	for _, w := range table() {
		if b := image.Encode(w.tree); b != w.bytes {
			t.Errorf("Encode = % x; want % x", b, w.bytes)
		}
		expectLike(t, decoded(t, w.bytes), w.tree)
	}
}

// P12.1: images are as the chapter says, of great trees, too.
func TestRuled(t *testing.T) {
	for _, tr := range append(trees(), wide(true, padded), wide(false, padded), deep(padded)) {
		if b := image.Encode(tr); b != ruledImage(tr) {
			t.Errorf("Encode of %d nodes = % x; want % x", tr.Nodes(), b, ruledImage(tr))
		}
	}
}

// P12.1: directories rise by their numbers, wherever and whenever they came,
// and entries stand in the tree's order.
func TestOrder(t *testing.T) {
	tr := made(40, lists{
		0:   {aDir("z", 200, 5), aDir("y", 7, 30), aDir("x", 9, 31)},
		200: {aFile("b", 100, 2), aFile("a", 3, 4)},
		9:   {aDir("c", 1, 1)},
		7:   nil,
		1:   nil,
	})
	want := "\x00\x00\x00\x00\x00\x00\x00\x28\x00\x05" +
		"\x00\x00\x00\x03" + part{"z", 200, 1, 5, 0}.bytes() + part{"y", 7, 1, 30, 0}.bytes() + part{"x", 9, 1, 31, 0}.bytes() +
		"\x00\x01\x00\x00" +
		"\x00\x07\x00\x00" +
		"\x00\x09\x00\x01" + part{"c", 1, 1, 1, 0}.bytes() +
		"\x00\xc8\x00\x02" + part{"b", 100, 0, 2, 0}.bytes() + part{"a", 3, 0, 4, 0}.bytes()
	if b := image.Encode(tr); b != want {
		t.Errorf("Encode = % x; want % x", b, want)
	}
	expectLike(t, decoded(t, want), tr)
}

// P12.1, R4, R7: Encode leaves the tree as it was, and says the same again.
func TestEncodeLeaves(t *testing.T) {
	for _, tr := range trees() {
		before := tr.Clone()
		b := image.Encode(tr)
		expectLike(t, tr, before)
		if again := image.Encode(tr); again != b {
			t.Errorf("Encode = % x, and again % x", b, again)
		}
		if c := image.Encode(before); c != b {
			t.Errorf("Encode of a clone = % x; want % x", c, b)
		}
	}
}

// P12.1, R7: one call leaves nothing that the next one finds.
func TestAgain(t *testing.T) {
	for _, w := range table() {
		for _, other := range table() {
			expectNoTree(t, other.bytes+w.bytes)
			expectLike(t, decoded(t, w.bytes), w.tree)
			if b := image.Encode(other.tree); b != other.bytes {
				t.Errorf("Encode = % x; want % x", b, other.bytes)
			}
			if b := image.Encode(w.tree); b != w.bytes {
				t.Errorf("Encode = % x; want % x", b, w.bytes)
			}
		}
	}
}

// R1: a tree that nobody made has no directory, and no tree has what is
// answered.
func TestZeroTree(t *testing.T) {
	b := image.Encode(&tree.Tree{})
	if b != strings.Repeat("\x00", 10) {
		t.Errorf("Encode = % x", b)
	}
	expectNoTree(t, b)
}
