package walk_test

import (
	"testing"

	"toponym/api"
	"toponym/faces"
	"toponym/tree"
)

// expectWays goes down by the faces of a directory's entries, and asks for each
// node by its path; it tells how many nodes it came to.
func expectWays(t *testing.T, enc int, tr *tree.Tree, dir int, names []string) int {
	t.Helper()
	l, err := tr.List(dir)
	if err != api.OK {
		t.Fatalf("List(%d) = %d", dir, err)
	}
	if !faces.Clean(enc, l) {
		t.Fatalf("%d: the directory %d isn't clean", enc, dir)
	}
	count := len(l)
	for _, e := range l {
		path := append(names[:len(names):len(names)], faces.Of(enc, e))
		if len(path) > api.MaxDeep || len(of(path...)) > api.MaxPath {
			expectNoNode(t, enc, tr, of(path...), api.ErrLong)
			expectNoParent(t, enc, tr, of(path...), api.ErrLong)
			if e.Dir {
				count += deeper(t, tr, e.Node)
			}
			continue
		}
		expectNode(t, enc, tr, of(path...), e.Node, e.Dir)
		expectParent(t, enc, tr, of(path...), dir, faces.Of(enc, e))
		if e.Dir {
			count += expectWays(t, enc, tr, e.Node, path)
		}
	}
	return count
}

// deeper counts what no path leads to.
func deeper(t *testing.T, tr *tree.Tree, dir int) int {
	t.Helper()
	l, err := tr.List(dir)
	if err != api.OK {
		t.Fatalf("List(%d) = %d", dir, err)
	}
	count := len(l)
	for _, e := range l {
		if e.Dir {
			count += deeper(t, tr, e.Node)
		}
	}
	return count
}

// cleanTree has as many nodes as may be, whose Shorts were picked one by one,
// and some of which were moved, or are gone, in between.
func cleanTree(t *testing.T, enc int, draw func(below int) int) *tree.Tree {
	t.Helper()
	tr := tree.New()
	names := pool()
	for tries := 0; tr.Nodes() < api.MaxNodes && tries < 2000; tries++ {
		dirs := tr.Dirs()
		dir, raw := dirs[draw(len(dirs))], names[draw(len(names))]
		_, err := tr.Find(dir, raw)
		switch {
		case err != api.OK:
			plant(t, enc, tr, dir, raw, draw(3) > 0)
		case draw(4) == 0:
			tr.Unlink(dir, raw, draw(2) == 0)
		case draw(4) == 0:
			to, as := dirs[draw(len(dirs))], names[draw(len(names))]
			l, _ := tr.List(to)
			tr.Move(dir, raw, to, as, faces.Pick(enc, l, as))
		}
	}
	return tr
}

// P2, P15.2: each node of a tree is reached by the faces of the entries on the
// way, where these are clean, and by none but these: there are as many of such
// paths as nodes.
func TestEachNode(t *testing.T) {
	draw := drawer()
	for round := range 45 {
		enc := round % encodings
		tr := cleanTree(t, enc, draw)
		if count := expectWays(t, enc, tr, 0, nil); count != tr.Nodes() || count < 150 {
			t.Errorf("%d: of %d nodes %d were seen", enc, tr.Nodes(), count)
		}
	}
}

// P2, P15.2: so in a tree that is as deep as its nodes go, of which a path
// reaches the first MaxDeep.
func TestEachNodeDeep(t *testing.T) {
	for enc := range encodings {
		for _, raw := range pool() {
			tr := tree.New()
			for n := range api.MaxNodes {
				plant(t, enc, tr, n, raw, true)
			}
			if count := expectWays(t, enc, tr, 0, nil); count != api.MaxNodes {
				t.Errorf("%d: of % x there were seen %d", enc, raw, count)
			}
		}
	}
}

// P15.2: a node that was moved is reached by its new path, and not by the old
// one, with all that is below it; one whose number was given again by the new
// one alone.
func TestMoved(t *testing.T) {
	for enc := range encodings {
		tr := small(t)
		if err := tr.Move(0, "a", 0, stars(90), 1); err != api.OK {
			t.Fatal(err)
		}
		expectNoNode(t, enc, tr, "/a/b/c", api.ErrNone)
		expectNode(t, enc, tr, "/%~a99fd875-1/b/c", 3, false)
		expectParent(t, enc, tr, "/%~a99fd875-1/b/c", 2, "c")
		if err := tr.Unlink(2, "c", false); err != api.OK {
			t.Fatal(err)
		}
		expectNoNode(t, enc, tr, "/%~a99fd875-1/b/c", api.ErrNone)
		if n := link(t, tr, 0, "c", true, 0); n != 3 {
			t.Fatal(n)
		}
		expectNode(t, enc, tr, "/c", 3, true)
		expectNoNode(t, enc, tr, "/%~a99fd875-1/b/c", api.ErrNone)
		expectParent(t, enc, tr, "/%~a99fd875-1/b/c", 2, "c")
		expectNoParent(t, enc, tr, "/%~a99fd875-1/b/c/d", api.ErrNone)
	}
}
