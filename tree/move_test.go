package tree_test

import (
	"testing"

	"toponym/api"
	"toponym/tree"
)

func expectNoMove(t *testing.T, tr *tree.Tree, dir int, name string, to int, as string, short int, want api.Errno) {
	t.Helper()
	if err := tr.Move(dir, name, to, as, short); err != want {
		t.Errorf("Move(%d, %q, %d, %q, %d) = %d; want %d", dir, name, to, as, short, err, want)
	}
}

// P10.2: within a directory: the node stays, the cookie is new, and last.
func TestMoveWithin(t *testing.T) {
	tr := linked(t)
	want := sample()
	move(t, tr, 0, "a", 0, "z", 0)
	want[0] = []api.Entry{aFile("b", 2, 2), aDir("c", 3, 3), aDir("z", 1, 9)}
	expectTree(t, tr, 10, want)
	move(t, tr, 0, "b", 0, "a", 5)
	want[0] = []api.Entry{aDir("c", 3, 3), aDir("z", 1, 9), {Name: "a", Node: 2, Cookie: 10, Short: 5}}
	expectTree(t, tr, 11, want)
	move(t, tr, 0, "a", 0, "A", 0)
	want[0] = []api.Entry{aDir("c", 3, 3), aDir("z", 1, 9), aFile("A", 2, 11)}
	expectTree(t, tr, 12, want)
	move(t, tr, 6, "g", 6, "gg", 1)
	want[6] = []api.Entry{{Name: "gg", Node: 8, Cookie: 12, Short: 1}}
	expectTree(t, tr, 13, want)
}

// P10.2: into another directory, up, down and beside, of the same name and of
// another one; all that is below stays there.
func TestMoveAcross(t *testing.T) {
	tr := linked(t)
	want := sample()
	move(t, tr, 1, "d", 0, "d", 0)
	want[1] = []api.Entry{aFile("a", 4, 4)}
	want[0] = append(want[0], aDir("d", 5, 9))
	expectTree(t, tr, 10, want)
	move(t, tr, 0, "a", 6, "b", 1000000)
	want[0] = []api.Entry{aFile("b", 2, 2), aDir("c", 3, 3), aDir("d", 5, 9)}
	want[6] = append(want[6], api.Entry{Name: "b", Node: 1, Dir: true, Cookie: 10, Short: 1000000})
	expectTree(t, tr, 11, want)
	move(t, tr, 0, "b", 1, "b", 0)
	want[0] = []api.Entry{aDir("c", 3, 3), aDir("d", 5, 9)}
	want[1] = append(want[1], aFile("b", 2, 11))
	expectTree(t, tr, 12, want)
	move(t, tr, 0, "d", 3, "d", 0)
	want[0] = want[0][:1]
	want[3] = []api.Entry{aDir("d", 5, 12)}
	expectTree(t, tr, 13, want)
	move(t, tr, 5, "e", 0, "e", 0)
	want[5] = []api.Entry{aFile("f", 7, 7)}
	want[0] = append(want[0], aDir("e", 6, 13))
	expectTree(t, tr, 14, want)
	move(t, tr, 0, "c", 6, "c", 0)
	want[0] = []api.Entry{aDir("e", 6, 13)}
	want[6] = append(want[6], aDir("c", 3, 14))
	expectTree(t, tr, 15, want)
	link(t, tr, 5, "new", false, 0, 9)
}

// P10.2: the short is that of the call, whatever it was.
func TestMoveShort(t *testing.T) {
	tr := tree.New()
	link(t, tr, 0, "a", true, 9, 1)
	link(t, tr, 0, "b", false, 1000000, 2)
	for i, short := range goodShorts() {
		move(t, tr, 0, "a", 0, "c", short)
		move(t, tr, 0, "b", 1, "b", short)
		cookie := int64(3 + i*4)
		expectTree(t, tr, cookie+2, lists{
			0: {{Name: "c", Node: 1, Dir: true, Cookie: cookie, Short: short}},
			1: {{Name: "b", Node: 2, Cookie: cookie + 1, Short: short}},
		})
		move(t, tr, 0, "c", 0, "a", 3)
		move(t, tr, 1, "b", 0, "b", 0)
	}
}

// P10.2: Find's errors of what is moved, ahead of all others.
func TestMoveNone(t *testing.T) {
	tr := linked(t)
	for _, to := range []int{0, 2, 3, 9, -1, 201} {
		for _, as := range []string{"a", "new", "", "a/b"} {
			for _, short := range []int{0, -1, 1000001} {
				for _, n := range farOff() {
					expectNoMove(t, tr, n, "a", to, as, short, api.ErrNone)
				}
				expectNoMove(t, tr, 9, "a", to, as, short, api.ErrNone)
				expectNoMove(t, tr, 2, "a", to, as, short, api.ErrNotDir)
				expectNoMove(t, tr, 8, "..", to, as, short, api.ErrNotDir)
				expectNoMove(t, tr, 3, "a", to, as, short, api.ErrNone)
				expectNoMove(t, tr, 6, "a", to, as, short, api.ErrNone)
				for _, name := range append(badNames(), "d", "g", "new") {
					expectNoMove(t, tr, 0, name, to, as, short, api.ErrNone)
				}
			}
		}
	}
	expectSample(t, tr)
}

// P10.2: List's errors of where it goes, ahead of the name and the short.
func TestMoveNowhere(t *testing.T) {
	tr := linked(t)
	for _, name := range []string{"a", "b"} {
		for _, as := range append(badNames(), "a", "new") {
			for _, short := range []int{0, -1, 1000001} {
				for _, n := range farOff() {
					expectNoMove(t, tr, 0, name, n, as, short, api.ErrNone)
				}
				expectNoMove(t, tr, 0, name, 9, as, short, api.ErrNone)
				expectNoMove(t, tr, 0, name, 200, as, short, api.ErrNone)
				expectNoMove(t, tr, 0, name, 2, as, short, api.ErrNotDir)
				expectNoMove(t, tr, 0, name, 7, as, short, api.ErrNotDir)
			}
		}
	}
	expectSample(t, tr)
}

// P10.2: the name, then the short, both ahead of a loop, and of a name that is
// there.
func TestMoveName(t *testing.T) {
	tr := linked(t)
	for _, to := range []int{0, 1, 3, 5, 6} {
		for _, as := range badNames() {
			for _, short := range append(badShorts(), 0, 1000000) {
				expectNoMove(t, tr, 0, "a", to, as, short, api.ErrName)
				expectNoMove(t, tr, 1, "a", to, as, short, api.ErrName)
			}
		}
		for _, as := range []string{"a", "b", "e", "g", "new"} {
			for _, short := range badShorts() {
				expectNoMove(t, tr, 0, "a", to, as, short, api.ErrArg)
				expectNoMove(t, tr, 1, "a", to, as, short, api.ErrArg)
			}
		}
	}
	expectSample(t, tr)
	name := "a"
	for _, as := range goodNames()[1:] {
		move(t, tr, 0, name, 0, as, 0)
		name = as
	}
}

// P10.2: a directory into itself, and below itself, ahead of a name that is
// there; beside itself it may go.
func TestMoveLoop(t *testing.T) {
	tr := linked(t)
	for _, as := range []string{"a", "d", "e", "f", "g", "new"} {
		for _, to := range []int{1, 5, 6} {
			expectNoMove(t, tr, 0, "a", to, as, 0, api.ErrLoop)
		}
		for _, to := range []int{5, 6} {
			expectNoMove(t, tr, 1, "d", to, as, 0, api.ErrLoop)
		}
		expectNoMove(t, tr, 5, "e", 6, as, 0, api.ErrLoop)
		expectNoMove(t, tr, 0, "c", 3, as, 0, api.ErrLoop)
	}
	expectSample(t, tr)
	move(t, tr, 0, "a", 3, "a", 0)
	expectNoMove(t, tr, 0, "c", 6, "c", 0, api.ErrLoop)
	move(t, tr, 5, "e", 0, "e", 0)
	move(t, tr, 3, "a", 6, "a", 0)
	expectNoMove(t, tr, 0, "e", 5, "e", 0, api.ErrLoop)
	move(t, tr, 0, "c", 5, "c", 0)
	expectNoMove(t, tr, 0, "e", 3, "e", 0, api.ErrLoop)
}

// P10.2: a loop at whatever depth, from wherever.
func TestMoveLoopDeep(t *testing.T) {
	tr := tree.New()
	for n := range api.MaxNodes - 1 {
		link(t, tr, n, "a", true, 0, n+1)
	}
	link(t, tr, 0, "b", true, 0, api.MaxNodes)
	want := listsOf(t, tr)
	for n := range api.MaxNodes - 1 {
		for to := n + 1; to < api.MaxNodes; to++ {
			expectNoMove(t, tr, n, "a", to, "b", 0, api.ErrLoop)
		}
	}
	expectTree(t, tr, api.MaxNodes+1, want)
	for n := api.MaxNodes - 2; n > 0; n-- {
		move(t, tr, n, "a", 0, "c", 0)
		move(t, tr, 0, "c", api.MaxNodes, "d", 0)
		move(t, tr, api.MaxNodes, "d", n, "a", 0)
	}
}

// P10.2: a name that is there, be it a file's, a directory's, or its own.
func TestMoveExists(t *testing.T) {
	tr := linked(t)
	for _, short := range goodShorts() {
		for _, name := range []string{"a", "b", "c"} {
			for _, as := range []string{"a", "b", "c"} {
				expectNoMove(t, tr, 0, name, 0, as, short, api.ErrExists)
			}
		}
		expectNoMove(t, tr, 0, "b", 1, "a", short, api.ErrExists)
		expectNoMove(t, tr, 0, "b", 1, "d", short, api.ErrExists)
		expectNoMove(t, tr, 0, "c", 1, "a", short, api.ErrExists)
		expectNoMove(t, tr, 0, "c", 5, "e", short, api.ErrExists)
		expectNoMove(t, tr, 1, "a", 0, "a", short, api.ErrExists)
		expectNoMove(t, tr, 1, "d", 0, "c", short, api.ErrExists)
		expectNoMove(t, tr, 6, "g", 6, "g", short, api.ErrExists)
	}
	expectSample(t, tr)
}

// P10.2: a tree with as many nodes as may be has room for moves.
func TestMoveFull(t *testing.T) {
	tr := full(t)
	for cookie := int64(api.MaxNodes + 1); cookie < 1000; cookie += 2 {
		move(t, tr, 2, "100", 1, "x", 0)
		if e, err := tr.Find(1, "x"); e != aFile("x", 100, cookie) || err != api.OK {
			t.Fatalf("Find(1, x) = %v, %d", e, err)
		}
		move(t, tr, 1, "x", 2, "100", 0)
	}
	expectNoLink(t, tr, 0, "new", false, 0, api.ErrMany)
}
