package walk_test

import (
	"fmt"
	"slices"
	"testing"

	"toponym/api"
	"toponym/faces"
	"toponym/tree"
	"toponym/walk"
)

// ruledSplit says the chapter's rule over again, byte by byte.
func ruledSplit(path string) ([]string, api.Errno) {
	if len(path) >= 1025 {
		return nil, api.ErrLong
	}
	if len(path) == 0 || path[0] != '/' {
		return nil, api.ErrName
	}
	if len(path) == 1 {
		return nil, api.OK
	}
	var names []string
	for i := range len(path) {
		if path[i] == '/' {
			names = append(names, "")
		} else {
			names[len(names)-1] += path[i : i+1]
		}
	}
	for _, no := range []string{"", ".", ".."} {
		if slices.Contains(names, no) {
			return nil, api.ErrName
		}
	}
	if len(names) >= 17 {
		return nil, api.ErrLong
	}
	return names, api.OK
}

// ruledNode says it of entries that are told their faces one by one.
func ruledNode(t *testing.T, enc int, tr *tree.Tree, path string) (int, bool, api.Errno) {
	t.Helper()
	names, err := ruledSplit(path)
	if err != api.OK {
		return 0, false, err
	}
	node, isDir := 0, true
	for _, name := range names {
		if !isDir {
			return 0, false, api.ErrNotDir
		}
		l, err := tr.List(node)
		if err != api.OK {
			t.Fatalf("List(%d) = %d", node, err)
		}
		at := slices.Index(faces.Names(enc, l), name)
		if at < 0 {
			return 0, false, api.ErrNone
		}
		node, isDir = l[at].Node, l[at].Dir
	}
	return node, isDir, api.OK
}

func ruledParent(t *testing.T, enc int, tr *tree.Tree, path string) (int, string, api.Errno) {
	t.Helper()
	names, err := ruledSplit(path)
	if err != api.OK {
		return 0, "", err
	}
	if path == "/" {
		return 0, "", api.ErrArg
	}
	last := names[len(names)-1]
	node, isDir, err := ruledNode(t, enc, tr, of(names[:len(names)-1]...))
	if err != api.OK {
		return 0, "", err
	}
	if !isDir {
		return 0, "", api.ErrNotDir
	}
	return node, last, api.OK
}

// expectRule asks Split for a path, and, where there is one, for the path again.
func expectRule(t *testing.T, path string) api.Errno {
	t.Helper()
	want, wrong := ruledSplit(path)
	names, err := walk.Split(path)
	if !slices.Equal(names, want) || err != wrong {
		t.Fatalf("Split(%s) = %+q, %d; want %+q, %d", shown(path), names, err, want, wrong)
	}
	again := ""
	for _, name := range names {
		again += "/" + name
	}
	if len(names) == 0 {
		again = "/"
	}
	if err == api.OK && again != path {
		t.Fatalf("Split(%s) = %+q", shown(path), names)
	}
	return err
}

// P15.1: all texts of up to nine of three bytes.
func TestSplitAll(t *testing.T) {
	came := map[api.Errno]int{}
	texts := []string{""}
	for range 10 {
		var next []string
		for _, text := range texts {
			came[expectRule(t, text)]++
			for _, b := range []string{"/", ".", "a"} {
				next = append(next, text+b)
			}
		}
		texts = next
	}
	if len(came) != 2 || came[api.OK] < 1000 {
		t.Errorf("there came %v", came)
	}
}

// P15.1: texts that are drawn, about as deep and as long as may be.
func TestSplitDrawn(t *testing.T) {
	draw := drawer()
	came := map[api.Errno]int{}
	parts := []string{"a", "...", "\xff", "\u00e9", letters(30), letters(58), letters(64), "%2f", ".a", "b."}
	seldom := []string{"", ".", ".."}
	for range 30000 {
		path := ""
		for range draw(20) {
			if draw(40) == 0 {
				path += "/" + seldom[draw(3)]
			} else {
				path += "/" + parts[draw(len(parts))]
			}
		}
		if draw(30) == 0 {
			path += "/"
		}
		if more := 1025 - len(path); more > 0 && draw(10) == 0 {
			path += letters(more - draw(3))
		}
		came[expectRule(t, path)]++
	}
	if len(came) != 3 || came[api.OK] < 5000 || came[api.ErrLong] < 2000 || came[api.ErrName] < 2000 {
		t.Errorf("there came %v", came)
	}
}

// pool are names on a disk of which trees are made: some are long, in some
// encodings alone, and some look like others' faces.
func pool() []string {
	return []string{"a", "b", "c", "a.", "a%2e", "%61", "caf\xe9", "caf%e9", "e\u0301", "\u00e9", "\xff", stars(86), stars(90), "liquid" + stars(90), "costarring" + stars(90), "liquid", "costarring", letters(255), "%~a99fd875-1", "..."}
}

// grown is a tree of some entries, the most of which fit.
func grown(t *testing.T, enc int, draw func(below int) int) *tree.Tree {
	t.Helper()
	tr := tree.New()
	names := pool()
	for range 5 + draw(40) {
		dirs := tr.Dirs()
		dir, raw := dirs[draw(len(dirs))], names[draw(len(names))]
		if _, err := tr.Find(dir, raw); err == api.OK {
			continue
		}
		if draw(6) == 0 {
			link(t, tr, dir, raw, draw(2) == 0, draw(3))
		} else {
			plant(t, enc, tr, dir, raw, draw(2) == 0)
		}
	}
	return tr
}

// way is a path that goes down by faces for the most part, for as long as it
// may, and then perhaps somewhat further.
func way(t *testing.T, enc int, tr *tree.Tree, draw func(below int) int) string {
	t.Helper()
	var names []string
	node := 0
	for range draw(6) {
		l, err := tr.List(node)
		if err != api.OK || len(l) == 0 {
			break
		}
		e := l[draw(len(l))]
		if draw(12) == 0 {
			names = append(names, e.Name)
			break
		}
		names = append(names, faces.Of(enc, e))
		node = e.Node
	}
	some := []string{"x", "a", "%61", "..", "", "\u00e9", "%~a99fd875-1"}
	for range max(0, draw(6)-3) {
		names = append(names, some[draw(len(some))])
	}
	if draw(20) == 0 {
		names = append(names, times(8+draw(12), "x")...)
	}
	return of(names...)
}

// P15.2: ways through trees that are drawn, as the chapter says, in each
// encoding; where names are told alike, by the first one.
func TestRule(t *testing.T) {
	draw := drawer()
	came := map[string]int{}
	for round := range 900 {
		enc := round % encodings
		tr := grown(t, enc, draw)
		before := tr.Clone()
		for range 40 {
			path := way(t, enc, tr, draw)
			n, is, err := walk.Node(enc, tr, path)
			if wantN, wantIs, want := ruledNode(t, enc, tr, path); n != wantN || is != wantIs || err != want {
				t.Fatalf("Node(%d, %s) = %d, %v, %d; want %d, %v, %d", enc, shown(path), n, is, err, wantN, wantIs, want)
			}
			came[fmt.Sprint("node ", err)]++
			n, name, err := walk.Parent(enc, tr, path)
			if wantN, wantName, want := ruledParent(t, enc, tr, path); n != wantN || name != wantName || err != want {
				t.Fatalf("Parent(%d, %s) = %d, %+q, %d; want %d, %+q, %d", enc, shown(path), n, name, err, wantN, wantName, want)
			}
			came[fmt.Sprint("parent ", err)]++
		}
		if !tree.Same(tr, before) {
			t.Fatalf("%d: the tree was changed", enc)
		}
	}
	for _, kind := range []string{"node 0", "node 3", "node 4", "node 5", "node 8", "parent 0", "parent 1", "parent 3", "parent 4", "parent 5", "parent 8"} {
		if came[kind] < 20 {
			t.Fatalf("there came %v", came)
		}
	}
}
