package walk_test

import (
	"slices"
	"strings"
	"testing"

	"toponym/api"
	"toponym/faces"
	"toponym/tree"
	"toponym/walk"
)

// known are names on a disk and their faces.
type known struct {
	enc       int
	raw, face string
}

// knowns are some of each encoding: such as are read, such as are escaped, and
// such as have a short name.
func knowns() []known {
	l := []known{
		{api.ASCII, "a name.txt", "a name.txt"},
		{api.ASCII, "\x80x", "%80x"},
		{api.Latin1, "caf\xe9", "caf\u00e9"},
		{api.Latin2, "\xb1\xea", "\u0105\u0119"},
		{api.Latin9, "5 \xa4", "5 \u20ac"},
		{api.CP437, "\x80\xe9", "\u00c7\u0398"},
		{api.CP850, "\xd5\x9b", "\u0131\u00f8"},
		{api.Kana, "\x83\x41\xb1", "\u30a2\uff71"},
		{api.UTF8, "\u00e9e\u0301", "\u00e9e\u0301"},
		{api.UTF8, "caf\xe9", "caf%e9"},
		{api.HFS, "e\u0301", "\u00e9"},
		{api.HFS, "\u00e9", "%c3%a9"},
	}
	for enc := range encodings {
		l = append(l,
			known{enc, "a", "a"},
			known{enc, "a.", "a%2e"},
			known{enc, "...", "..%2e"},
			known{enc, "b ", "b%20"},
			known{enc, "x*y", "x%2ay"},
			known{enc, "%2a", "%252a"},
			known{enc, letters(255), letters(255)},
			known{enc, stars(85), strings.Repeat("%2a", 85)},
			known{enc, stars(90), "%~a99fd875-1"},
			known{enc, stars(255), "%~236c826d-1"})
	}
	return l
}

// P15.2: the root is a directory, in whatever tree.
func TestNodeRoot(t *testing.T) {
	for enc := range encodings {
		expectNode(t, enc, tree.New(), "/", 0, true)
		expectNode(t, enc, small(t), "/", 0, true)
	}
}

// P15.2: files and directories of the root, and below it, by their faces.
func TestNode(t *testing.T) {
	for _, k := range knowns() {
		tr := tree.New()
		link(t, tr, 0, "zz", false, 0)
		file := plant(t, k.enc, tr, 0, "y"+k.raw[1:], false)
		dir := plant(t, k.enc, tr, 0, k.raw, true)
		below := plant(t, k.enc, tr, dir, k.raw, true)
		last := plant(t, k.enc, tr, below, k.raw, false)
		expectNode(t, k.enc, tr, "/zz", 1, false)
		expectNode(t, k.enc, tr, of(k.face), dir, true)
		expectNode(t, k.enc, tr, of(k.face, k.face), below, true)
		expectNode(t, k.enc, tr, of(k.face, k.face, k.face), last, false)
		expectNoNode(t, k.enc, tr, of(k.face, k.face, k.face, k.face), api.ErrNotDir)
		expectNoNode(t, k.enc, tr, of(k.face, "zz"), api.ErrNone)
		expectParent(t, k.enc, tr, of(k.face, k.face, k.face), below, k.face)
		l, _ := tr.List(0)
		expectNode(t, k.enc, tr, of(faces.Of(k.enc, l[1])), file, false)
	}
}

// P15.2: to the depth of MaxDeep names, a file or a directory there; by names of
// as many bytes as a path may have.
func TestNodeDeep(t *testing.T) {
	for enc := range encodings {
		for _, name := range []string{"d", letters(63)} {
			tr := tree.New()
			var names []string
			for n := range 20 {
				link(t, tr, n, name, true, 0)
				if n < 16 {
					names = append(names, name)
					expectNode(t, enc, tr, of(names...), n+1, true)
				} else {
					expectNoNode(t, enc, tr, of(append(slices.Clone(names), times(n-15, name)...)...), api.ErrLong)
				}
			}
			names[15] = "f"
			expectNoNode(t, enc, tr, of(names...), api.ErrNone)
			link(t, tr, 15, "f", false, 0)
			expectNode(t, enc, tr, of(names...), 21, false)
		}
	}
}

// P15.2: each of Split's errors, ahead of what the tree would tell.
func TestNodeNoPath(t *testing.T) {
	for enc := range encodings {
		tr := small(t)
		expectNoNode(t, enc, tr, "", api.ErrName)
		expectNoNode(t, enc, tr, "a", api.ErrName)
		expectNoNode(t, enc, tr, "/a/", api.ErrName)
		expectNoNode(t, enc, tr, "/a/.", api.ErrName)
		expectNoNode(t, enc, tr, "/a/../f", api.ErrName)
		expectNoNode(t, enc, tr, "/f/..", api.ErrName)
		expectNoNode(t, enc, tr, "/x/..", api.ErrName)
		expectNoNode(t, enc, tr, "/f/x//", api.ErrName)
		expectNoNode(t, enc, tr, of(times(17, "f")...), api.ErrLong)
		expectNoNode(t, enc, tr, of(times(16, "f")...), api.ErrNotDir)
		expectNoNode(t, enc, tr, of(times(17, "x")...), api.ErrLong)
		expectNoNode(t, enc, tr, of(times(16, "x")...), api.ErrNone)
		expectNoNode(t, enc, tr, of(times(17, "a")...), api.ErrLong)
		expectNoNode(t, enc, tr, of("f", letters(1022)), api.ErrLong)
		expectNoNode(t, enc, tr, of("f", letters(1021)), api.ErrNotDir)
		expectNoNode(t, enc, tr, of("x", letters(1021)), api.ErrNone)
	}
}

// P15.2: ErrNone at the first name, in the middle, and at the last one.
func TestNodeNone(t *testing.T) {
	for enc := range encodings {
		tr := small(t)
		for _, path := range []string{"/x", "/x/b", "/x/b/c", "/a/x", "/a/x/c", "/a/x/c/d", "/a/b/x", "/b", "/c", "/a/a", "/a/c", "/a/f", "/a/b/b", "/A", "/aa", "/ a", "/a /b", "/a/b/c ", "/a\x00"} {
			expectNoNode(t, enc, tr, path, api.ErrNone)
		}
		expectNoNode(t, enc, tree.New(), "/a", api.ErrNone)
		expectNoNode(t, enc, tree.New(), of(times(16, "a")...), api.ErrNone)
	}
}

// P15.2: ErrNotDir, if what was reached is a file, and names are left: behind
// the first name, in the middle, and ahead of the last one.
func TestNodeNotDir(t *testing.T) {
	for enc := range encodings {
		tr := small(t)
		for _, path := range []string{"/f/x", "/f/f", "/f/a", "/f/x/y", "/f/x/y/z", "/a/b/c/c", "/a/b/c/x", "/a/b/c/x/y", "/f/" + letters(300), "/f/\xff"} {
			expectNoNode(t, enc, tr, path, api.ErrNotDir)
		}
	}
}

// P15.2: of both the one comes first whose name does: behind it nothing is asked.
func TestNodeFirstError(t *testing.T) {
	for enc := range encodings {
		tr := small(t)
		expectNoNode(t, enc, tr, "/x/f/y", api.ErrNone)
		expectNoNode(t, enc, tr, "/a/x/c/y", api.ErrNone)
		expectNoNode(t, enc, tr, "/f/x/f", api.ErrNotDir)
		expectNoNode(t, enc, tr, "/a/b/c/x/y", api.ErrNotDir)
		expectNoNode(t, enc, tr, "/a/b/x/c/d", api.ErrNone)
	}
}

// P15.2: a name that is an entry's on the disk, but not its face, leads nowhere,
// nor does one from which the entry's name would be restored, or one of another
// encoding.
func TestNodeByFaceAlone(t *testing.T) {
	for _, k := range knowns() {
		tr := tree.New()
		dir := plant(t, k.enc, tr, 0, k.raw, true)
		plant(t, k.enc, tr, dir, k.raw, false)
		for _, name := range []string{k.raw, k.face + "x", k.face[1:], strings.ToUpper(k.face), strings.ReplaceAll(k.raw, "*", "%2a"), strings.ReplaceAll(k.raw, "*", "%2A"), "%61" + k.face[1:]} {
			if name == k.face || name == "" || strings.Trim(name, ".") == "" {
				continue
			}
			expectNoNode(t, k.enc, tr, of(name), api.ErrNone)
			expectNoNode(t, k.enc, tr, of(name, k.face), api.ErrNone)
			expectNoNode(t, k.enc, tr, of(k.face, name), api.ErrNone)
		}
	}
}

// P15.2: one tree has other faces in other encodings.
func TestNodeEncodings(t *testing.T) {
	tr := tree.New()
	dir := link(t, tr, 0, "caf\xe9", true, 0)
	below := link(t, tr, dir, "\x80", false, 0)
	for enc, names := range [][]string{
		{"caf%e9", "%80"}, {"caf\u00e9", "\u0080"}, {"caf\u00e9", "\u0080"}, {"caf\u00e9", "\u0080"}, {"caf\u0398", "\u00c7"}, {"caf\u00da", "\u00c7"}, {"caf%e9", "%80"}, {"caf%e9", "%80"}, {"caf%e9", "%80"},
	} {
		expectNode(t, enc, tr, of(names[0]), dir, true)
		expectNode(t, enc, tr, of(names...), below, false)
		for _, other := range []string{"caf%e9", "caf\u00e9", "caf\u0398", "caf\u00da"} {
			if other != names[0] {
				expectNoNode(t, enc, tr, of(other), api.ErrNone)
				expectNoNode(t, enc, tr, of(other, names[1]), api.ErrNone)
			}
		}
	}
}

// P15.2: entries that don't fit have faces, too: a short one of a name that
// isn't long, and one that is too long for a name, but not for a path.
func TestNodeNotFitting(t *testing.T) {
	for enc := range encodings {
		tr := tree.New()
		link(t, tr, 0, "a", true, 1)
		link(t, tr, 1, stars(86), true, 0)
		link(t, tr, 2, stars(90), false, 1000000)
		long := strings.Repeat("%2a", 86)
		expectNode(t, enc, tr, "/%~e40c292c-1", 1, true)
		expectNode(t, enc, tr, of("%~e40c292c-1", long), 2, true)
		expectNode(t, enc, tr, of("%~e40c292c-1", long, "%~a99fd875-1000000"), 3, false)
		expectNoNode(t, enc, tr, "/a", api.ErrNone)
		expectNoNode(t, enc, tr, of("%~e40c292c-1", long, "%~a99fd875-1"), api.ErrNone)
	}
}

// twins are a tree with a directory d with two entries of one face, the first
// of which is a directory, or not, and the second not, or one; the directory
// has a file x. costarring and liquid have one hash, and so they have with the
// same bytes behind them.
func twins(t *testing.T, end string, isDir bool) *tree.Tree {
	t.Helper()
	tr := tree.New()
	link(t, tr, 0, "d", true, 0)
	link(t, tr, 1, "liquid"+end, isDir, 3)
	link(t, tr, 1, "costarring"+end, !isDir, 3)
	dir := 3
	if isDir {
		dir = 2
	}
	link(t, tr, dir, "x", false, 0)
	return tr
}

// P15.2: of two entries with one face the first one counts, that of the lower
// cookie; when it is gone, the other one does.
func TestNodeFirst(t *testing.T) {
	for enc := range encodings {
		for _, end := range []string{"", stars(90)} {
			for _, isDir := range []bool{true, false} {
				tr := twins(t, end, isDir)
				l, _ := tr.List(1)
				names := faces.Names(enc, l)
				if names[0] != names[1] {
					t.Fatalf("the faces are %+q", names)
				}
				expectNode(t, enc, tr, of("d", names[0]), 2, isDir)
				expectParent(t, enc, tr, of("d", names[0]), 1, names[0])
				if isDir {
					expectNode(t, enc, tr, of("d", names[0], "x"), 4, false)
					expectParent(t, enc, tr, of("d", names[0], "y"), 2, "y")
				} else {
					expectNoNode(t, enc, tr, of("d", names[0], "x"), api.ErrNotDir)
					expectNoParent(t, enc, tr, of("d", names[0], "y"), api.ErrNotDir)
				}
				if err := tr.Move(1, "liquid"+end, 0, "m", 0); err != api.OK {
					t.Fatal(err)
				}
				expectNode(t, enc, tr, of("d", names[0]), 3, !isDir)
				if err := tr.Move(0, "m", 1, "liquid"+end, 3); err != api.OK {
					t.Fatal(err)
				}
				expectNode(t, enc, tr, of("d", names[0]), 3, !isDir)
			}
		}
	}
}

// P15.2: what is asked twice is answered alike.
func TestNodeTwice(t *testing.T) {
	for enc := range encodings {
		tr := small(t)
		for range 3 {
			expectNode(t, enc, tr, "/a/b/c", 3, false)
			expectNoNode(t, enc, tr, "/f/x", api.ErrNotDir)
			expectNoNode(t, enc, tr, "/a/x", api.ErrNone)
			if n, is, err := walk.Node(enc, tr, "/a"); n != 1 || !is || err != api.OK {
				t.Error(n, is, err)
			}
		}
	}
}
