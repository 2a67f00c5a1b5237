package walk_test

import (
	"testing"

	"toponym/api"
	"toponym/tree"
)

// P15.2: of / there is none, whatever the tree has.
func TestParentRoot(t *testing.T) {
	for enc := range encodings {
		expectNoParent(t, enc, tree.New(), "/", api.ErrArg)
		expectNoParent(t, enc, small(t), "/", api.ErrArg)
	}
}

// P15.2: the directory, and the last name, whether there is such an entry or
// not, and whether it is a file or a directory.
func TestParent(t *testing.T) {
	for enc := range encodings {
		tr := small(t)
		for _, last := range []string{"a", "b", "c", "f", "x", "A", "a.", "...", "%61", "*", "caf\u00e9", "\xff", "\u20ac", "\x00", letters(255), letters(256), letters(1000), stars(90)} {
			expectParent(t, enc, tr, of(last), 0, last)
			expectParent(t, enc, tr, of("a", last), 1, last)
			expectParent(t, enc, tr, of("a", "b", last), 2, last)
			expectNoParent(t, enc, tr, of("f", last), api.ErrNotDir)
			expectNoParent(t, enc, tr, of("a", "b", "c", last), api.ErrNotDir)
			expectNoParent(t, enc, tr, of("x", last), api.ErrNone)
			expectNoParent(t, enc, tr, of("a", "x", last), api.ErrNone)
			expectParent(t, enc, tree.New(), of(last), 0, last)
			expectNoParent(t, enc, tree.New(), of("a", last), api.ErrNone)
		}
	}
}

// P15.2: by faces, in all encodings; the last name is answered as it came.
func TestParentFaces(t *testing.T) {
	for _, k := range knowns() {
		tr := tree.New()
		link(t, tr, 0, "zz", false, 0)
		dir := plant(t, k.enc, tr, 0, k.raw, true)
		below := plant(t, k.enc, tr, dir, k.raw, true)
		expectParent(t, k.enc, tr, of(k.face), 0, k.face)
		expectParent(t, k.enc, tr, of(k.face, k.face), dir, k.face)
		expectParent(t, k.enc, tr, of(k.face, "x"), dir, "x")
		expectParent(t, k.enc, tr, of(k.face, k.face, "y"), below, "y")
		expectNoParent(t, k.enc, tr, of("%61"+k.face[1:], "x"), api.ErrNone)
		if k.raw != k.face && k.raw != "..." {
			expectNoParent(t, k.enc, tr, of(k.raw, "x"), api.ErrNone)
			expectNoParent(t, k.enc, tr, of(k.face, k.raw, "x"), api.ErrNone)
			expectParent(t, k.enc, tr, of(k.face, k.raw), dir, k.raw)
		}
	}
}

// P15.2: to the depth of MaxDeep names, of which the last one isn't asked for.
func TestParentDeep(t *testing.T) {
	for enc := range encodings {
		tr := tree.New()
		for n := range 17 {
			expectParent(t, enc, tr, of(append(times(n, "d"), "e")[max(0, n-15):]...), min(n, 15), "e")
			link(t, tr, n, "d", true, 0)
		}
		expectParent(t, enc, tr, of(times(16, "d")...), 15, "d")
		expectParent(t, enc, tr, of(append(times(15, "d"), letters(993))...), 15, letters(993))
		expectNoParent(t, enc, tr, of(append(times(15, "d"), letters(994))...), api.ErrLong)
		expectNoParent(t, enc, tr, of(times(17, "d")...), api.ErrLong)
		expectNoParent(t, enc, tr, of(append(times(16, "d"), "e")...), api.ErrLong)
	}
}

// P15.2: Split's errors, of the last name, too, ahead of what the tree would
// tell.
func TestParentNoPath(t *testing.T) {
	for enc := range encodings {
		tr := small(t)
		for _, path := range []string{"", "a", "f/x", "//", "/.", "/..", "/a/", "/f/", "/x/", "/f/..", "/x/.", "/x/y/..", "/f/x/", "/../a", "/x//y", "/f/./y"} {
			expectNoParent(t, enc, tr, path, api.ErrName)
		}
		for _, name := range []string{"a", "f", "x"} {
			expectNoParent(t, enc, tr, of(times(17, name)...), api.ErrLong)
			expectNoParent(t, enc, tr, of(name, letters(1022)), api.ErrLong)
			expectNoParent(t, enc, tr, of(letters(1022), name), api.ErrLong)
		}
	}
}

// P15.2: each of Node's errors, at the first name, in the middle, and at the
// last but one, of which the one comes first whose name does.
func TestParentNodesErrors(t *testing.T) {
	for enc := range encodings {
		tr := small(t)
		for _, path := range []string{"/x/y", "/x/b/c", "/a/x/y", "/a/x/c/d", "/a/b/x/y", "/x/f/y", "/c/x", "/a/x/c/x/y"} {
			expectNoParent(t, enc, tr, path, api.ErrNone)
		}
		for _, path := range []string{"/f/x", "/f/x/y", "/f/f/f", "/a/b/c/x", "/a/b/c/x/y", "/a/b/c/x/y/z"} {
			expectNoParent(t, enc, tr, path, api.ErrNotDir)
		}
	}
}
