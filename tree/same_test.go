package tree_test

import (
	"math"
	"testing"

	"toponym/api"
	"toponym/tree"
)

func expectSame(t *testing.T, what string, a, b *tree.Tree, want bool) {
	t.Helper()
	if tree.Same(a, b) != want || tree.Same(b, a) != want {
		t.Errorf("%s: Same = %t, %t; want %t", what, tree.Same(a, b), tree.Same(b, a), want)
	}
}

// P10.3: trees that differ in one thing alone aren't the same.
func TestSameDiffers(t *testing.T) {
	base := func() lists {
		return lists{
			0: {aDir("a", 1, 2), aFile("b", 2, 4), aFile("c", 5, 6)},
			1: {aDir("d", 3, 8), aFile("e", 4, 10)},
			3: nil,
		}
	}
	tr := made(t, 20, base())
	expectSame(t, "made twice", tr, made(t, 20, base()), true)
	for what, change := range map[string]func(dirs lists){
		"a file's name":      func(dirs lists) { dirs[0][1].Name = "B" },
		"a directory's name": func(dirs lists) { dirs[1][0].Name = "dd" },
		"a file's node":      func(dirs lists) { dirs[1][1].Node = 200 },
		"a directory's node": func(dirs lists) {
			dirs[1][0].Node, dirs[7] = 7, nil
			delete(dirs, 3)
		},
		"two files' nodes":       func(dirs lists) { dirs[0][1].Node, dirs[0][2].Node = 5, 2 },
		"a file's kind":          func(dirs lists) { dirs[0][1].Dir, dirs[2] = true, nil },
		"a deep file's kind":     func(dirs lists) { dirs[1][1].Dir, dirs[4] = true, nil },
		"a file's cookie":        func(dirs lists) { dirs[0][1].Cookie = 5 },
		"a directory's cookie":   func(dirs lists) { dirs[1][0].Cookie = 7 },
		"a deep file's cookie":   func(dirs lists) { dirs[1][1].Cookie = 19 },
		"two cookies":            func(dirs lists) { dirs[0][2].Cookie, dirs[1][0].Cookie = 8, 6 },
		"a file's short":         func(dirs lists) { dirs[0][1].Short = 1 },
		"a directory's short":    func(dirs lists) { dirs[1][0].Short = 1000000 },
		"a file's directory":     func(dirs lists) { dirs[3], dirs[1] = dirs[1][1:], dirs[1][:1] },
		"a file less":            func(dirs lists) { dirs[1] = dirs[1][:1] },
		"a first one less":       func(dirs lists) { dirs[0] = append(dirs[0][:1], dirs[0][2:]...) },
		"a file more":            func(dirs lists) { dirs[3] = []api.Entry{aFile("f", 6, 11)} },
		"a directory more":       func(dirs lists) { dirs[3], dirs[6] = []api.Entry{aDir("f", 6, 11)}, nil },
		"a directory less":       func(dirs lists) { dirs[1] = dirs[1][1:]; delete(dirs, 3) },
		"the names of two files": func(dirs lists) { dirs[0][1].Name, dirs[0][2].Name = "c", "b" },
		"the order of two files": func(dirs lists) {
			dirs[0][1], dirs[0][2] = aFile("c", 5, 4), aFile("b", 2, 6)
		},
		"the numbers of two directories": func(dirs lists) {
			dirs[0][0].Node, dirs[1][0].Node = 3, 1
			dirs[3], dirs[1] = dirs[1], nil
		},
	} {
		dirs := base()
		change(dirs)
		expectSame(t, what, tr, made(t, 20, dirs), false)
	}
	for _, cookie := range []int64{11, 19, 21, 1<<32 + 20, math.MaxInt64} {
		expectSame(t, "the next cookie", tr, made(t, cookie, base()), false)
	}
	expectSame(t, "no entries", tr, tree.New(), false)
	expectSame(t, "no entries", tr, made(t, 20, lists{0: nil}), false)
	expectSame(t, "no entries", tree.New(), made(t, 2, lists{0: nil}), false)
	expectTree(t, tr, 20, base())
}

// P10.3: likewise, where all that differs stands in one directory, whatever its
// number.
func TestSameNumbers(t *testing.T) {
	for n := 1; n <= api.MaxNodes; n++ {
		beside := n%api.MaxNodes + 1
		of := func(l ...api.Entry) *tree.Tree {
			t.Helper()
			return made(t, 5, lists{0: {aDir("a", n, 1)}, n: l})
		}
		tr := of(aFile("b", beside, 2))
		expectSame(t, "the same", tr, of(aFile("b", beside, 2)), true)
		expectSame(t, "a name", tr, of(aFile("c", beside, 2)), false)
		expectSame(t, "a cookie", tr, of(aFile("b", beside, 3)), false)
		expectSame(t, "an entry", tr, of(), false)
	}
}

// P10.3: trees with the same entries and cookie are the same, however they came
// about, whatever waits of the numbers.
func TestSameWays(t *testing.T) {
	tr := linked(t)
	expectSame(t, "itself", tr, tr, true)
	expectSame(t, "links again", tr, linked(t), true)
	expectSame(t, "made", tr, made(t, sampleCookie, sample()), true)
	expectSame(t, "a clone", tr, tr.Clone(), true)
	expectSame(t, "roots", tree.New(), tree.New(), true)

	link(t, tr, 0, "x", false, 0, 9)
	link(t, tr, 0, "y", true, 0, 10)
	unlink(t, tr, 0, "y", true)
	other := linked(t)
	link(t, other, 3, "z", true, 0, 9)
	unlink(t, other, 3, "z", true)
	link(t, other, 3, "z", true, 0, 9)
	unlink(t, other, 3, "z", true)
	expectSame(t, "an entry more", tr, other, false)
	unlink(t, tr, 0, "x", false)
	expectSame(t, "other calls", tr, other, true)
	expectSame(t, "made of both", made(t, 11, listsOf(t, tr)), other, true)
	link(t, tr, 0, "x", false, 0, 9)
	expectSame(t, "a link", tr, other, false)
	link(t, other, 0, "x", false, 0, 9)
	expectSame(t, "a link of both", tr, other, true)
	move(t, tr, 0, "x", 3, "x", 0)
	move(t, other, 0, "x", 1, "x", 0)
	expectSame(t, "moves elsewhere", tr, other, false)
	move(t, tr, 3, "x", 5, "y", 2)
	move(t, other, 1, "x", 5, "y", 2)
	expectSame(t, "moves there", tr, other, true)
}
