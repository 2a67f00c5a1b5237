package tree_test

import (
	"maps"
	"math"
	"slices"
	"strconv"
	"testing"

	"toponym/api"
	"toponym/tree"
)

func expectNone(t *testing.T, what string, cookie int64, dirs lists) {
	t.Helper()
	if tr, err := tree.Make(cookie, dirs); tr != nil || err != api.ErrForm {
		t.Errorf("%s: Make(%d, %v) = %t, %d; want none, ErrForm", what, cookie, dirs, tr != nil, err)
	}
}

// freeOf are the numbers that no entry has, rising.
func freeOf(dirs lists) []int {
	var free []int
	for n := 1; n <= api.MaxNodes; n++ {
		isFree := true
		for _, l := range dirs {
			isFree = isFree && !slices.ContainsFunc(l, func(e api.Entry) bool { return e.Node == n })
		}
		if isFree {
			free = append(free, n)
		}
	}
	return free
}

// expectMade makes a tree of these, and asks it for the least free numbers, and
// for the next cookies, while there are some.
func expectMade(t *testing.T, cookie int64, dirs lists) {
	t.Helper()
	tr := made(t, cookie, dirs)
	expectTree(t, tr, cookie, dirs)
	free := freeOf(dirs)
	for i := range int64(3) {
		name := "next" + strconv.FormatInt(i, 10)
		if len(free) == 0 || i > math.MaxInt64-cookie {
			expectNoLink(t, tr, 0, name, true, 0, api.ErrMany)
			break
		}
		link(t, tr, 0, name, false, 0, free[0])
		want := aFile(name, free[0], cookie+i)
		if e, err := tr.Find(0, name); e != want || err != api.OK {
			t.Errorf("Find(0, %q) = %v, %d; want %v", name, e, err, want)
		}
		free = free[1:]
	}
}

// with is the sample, changed.
func with(change func(dirs lists)) lists {
	dirs := sample()
	change(dirs)
	return dirs
}

// P10.3: a root alone, whatever the next cookie.
func TestMakeRoot(t *testing.T) {
	for _, cookie := range []int64{1, 2, 3, 255, 256, math.MaxInt32, math.MaxInt32 + 1, math.MaxUint32, 1 << 32, 1 << 40, math.MaxInt64 - 1, math.MaxInt64} {
		expectMade(t, cookie, lists{0: nil})
		expectMade(t, cookie, lists{0: {}})
	}
	if !tree.Same(made(t, 1, lists{0: nil}), tree.New()) {
		t.Error("a root alone isn't the same as New()")
	}
	for _, cookie := range []int64{0, -1, -2, math.MinInt32, math.MinInt64, math.MinInt64 + 1, -1 << 32, -1<<32 + 1} {
		expectNone(t, "a cookie below 1", cookie, lists{0: nil})
		expectNone(t, "a cookie below 1", cookie, sample())
		expectNone(t, "a cookie below 1", cookie, lists{0: {aFile("a", 1, cookie-1)}})
	}
}

// P10.3: a tree's own entries, and what it gives behind that.
func TestMakeOwn(t *testing.T) {
	tr := linked(t)
	own := func() {
		t.Helper()
		again := made(t, tr.Cookie(), listsOf(t, tr))
		if !tree.Same(again, tr) || !tree.Same(tr, again) {
			t.Error("a tree of its own entries isn't the same")
		}
		expectMade(t, tr.Cookie(), listsOf(t, tr))
	}
	own()
	unlink(t, tr, 0, "b", false)
	own()
	move(t, tr, 0, "a", 3, "z", 1000000)
	own()
	unlink(t, tr, 6, "g", false)
	own()
	move(t, tr, 5, "e", 0, "e", 0)
	own()
	link(t, tr, 6, "n", true, 1, 2)
	own()
	unlink(t, tr, 5, "f", false)
	unlink(t, tr, 1, "d", true)
	own()
}

// P10.3: as many nodes as may be, wide and deep, and one more.
func TestMakeFull(t *testing.T) {
	wide, deep := lists{0: nil}, lists{0: nil}
	for n := 1; n <= api.MaxNodes; n++ {
		wide[0] = append(wide[0], aFile(strconv.Itoa(n), api.MaxNodes+1-n, int64(n)))
		deep[n-1] = []api.Entry{aDir("a", n, int64(api.MaxNodes+1-n))}
		deep[n] = nil
	}
	expectMade(t, api.MaxNodes+1, wide)
	expectMade(t, api.MaxNodes+1, deep)
	one := aFile("more", api.MaxNodes+1, api.MaxNodes+1)
	wide[0] = append(wide[0], one)
	expectNone(t, "one more", api.MaxNodes+2, wide)
	deep[api.MaxNodes] = []api.Entry{one}
	expectNone(t, "one more", api.MaxNodes+2, deep)
}

// P10.3: a root isn't there, in a tree that else has all it should.
func TestMakeNoRoot(t *testing.T) {
	expectNone(t, "nothing", 1, nil)
	expectNone(t, "nothing", 1, lists{})
	expectNone(t, "no root", 1, lists{1: nil})
	expectNone(t, "no root", sampleCookie, with(func(dirs lists) { delete(dirs, 0) }))
	expectNone(t, "another number's", sampleCookie, with(func(dirs lists) {
		dirs[9] = dirs[0]
		delete(dirs, 0)
	}))
}

// P10.3: keys and the nodes of directories' entries are the same numbers.
func TestMakeKeys(t *testing.T) {
	for _, n := range append(farOff(), 9, 10, 199, 200) {
		expectNone(t, "a key that is no entry's node", sampleCookie, with(func(dirs lists) { dirs[n] = nil }))
		expectNone(t, "a key that is no entry's node", 1, lists{0: nil, n: nil})
	}
	for _, n := range []int{2, 4, 7, 8} {
		expectNone(t, "a file's key", sampleCookie, with(func(dirs lists) { dirs[n] = nil }))
		expectNone(t, "a file's key", 20, with(func(dirs lists) { dirs[n] = []api.Entry{aFile("a", 9, 10)} }))
	}
	for _, n := range []int{3, 6, 5, 1} {
		expectNone(t, "no key", sampleCookie, with(func(dirs lists) { delete(dirs, n) }))
	}
	expectNone(t, "no key", 2, lists{0: {aDir("a", 1, 1)}})
	expectNone(t, "another key", 2, lists{0: {aDir("a", 1, 1)}, 2: nil})
	expectNone(t, "a file's key", 2, lists{0: {aFile("a", 1, 1)}, 1: nil})
	expectNone(t, "a directory that became a file", sampleCookie, with(func(dirs lists) { dirs[5][0].Dir = false }))
	expectNone(t, "a file that became a directory", sampleCookie, with(func(dirs lists) { dirs[0][1].Dir = true }))
	expectMade(t, 2, lists{0: {aDir("a", 1, 1)}, 1: nil})
	expectMade(t, 2, lists{0: {aDir("a", 200, 1)}, 200: {}})
}

// P10.3: nodes from 1 to MaxNodes, each once.
func TestMakeNodes(t *testing.T) {
	for _, n := range farOff() {
		expectNone(t, "a file's node", 2, lists{0: {aFile("a", n, 1)}})
		expectNone(t, "a directory's node", 2, lists{0: {aDir("a", n, 1)}, n: nil})
		expectNone(t, "a file's node", sampleCookie, with(func(dirs lists) { dirs[6][0].Node = n }))
	}
	expectNone(t, "the root as a file", 2, lists{0: {aFile("a", 0, 1)}})
	expectNone(t, "the root as a directory", 2, lists{0: {aDir("a", 0, 1)}})
	expectNone(t, "the root below itself", 3, lists{0: {aDir("a", 1, 1)}, 1: {aDir("b", 0, 2)}})
	for _, n := range []int{1, 2, 199, 200} {
		expectMade(t, 2, lists{0: {aFile("a", n, 1)}})
		expectMade(t, 2, lists{0: {aDir("a", n, 1)}, n: nil})
	}
	expectNone(t, "twice in one", 3, lists{0: {aFile("a", 1, 1), aFile("b", 1, 2)}})
	expectNone(t, "twice in one", 3, lists{0: {aDir("a", 1, 1), aDir("b", 1, 2)}, 1: nil})
	expectNone(t, "as both kinds", 3, lists{0: {aDir("a", 1, 1), aFile("b", 1, 2)}, 1: nil})
	expectNone(t, "as both kinds", 3, lists{0: {aFile("a", 1, 1), aDir("b", 1, 2)}, 1: nil})
	expectNone(t, "twice in two", 4, lists{0: {aDir("a", 1, 1), aFile("b", 2, 2)}, 1: {aFile("c", 2, 3)}})
	for dir, l := range sample() {
		for i := range l {
			for n := range 9 {
				if n != l[i].Node {
					expectNone(t, "another's node", sampleCookie, with(func(dirs lists) { dirs[dir][i].Node = n }))
				}
			}
		}
	}
	expectMade(t, sampleCookie, with(func(dirs lists) { dirs[0][1].Node = 9 }))
	expectMade(t, sampleCookie, with(func(dirs lists) { dirs[6][0].Node = 200 }))
}

// P10.3: good names, each once in a directory; in two it may stand.
func TestMakeNames(t *testing.T) {
	for _, name := range badNames() {
		expectNone(t, "a name", 2, lists{0: {aFile(name, 1, 1)}})
		for dir, l := range sample() {
			for i := range l {
				expectNone(t, "a name", sampleCookie, with(func(dirs lists) { dirs[dir][i].Name = name }))
			}
		}
	}
	for _, name := range goodNames() {
		expectMade(t, 2, lists{0: {aFile(name, 1, 1)}})
		expectMade(t, sampleCookie, with(func(dirs lists) {
			dirs[0][0].Name, dirs[1][0].Name = "first", "first"
			dirs[0][2].Name, dirs[1][1].Name, dirs[5][0].Name, dirs[6][0].Name = name, name, name, name
		}))
	}
	for _, x := range []struct{ a, b int }{{0, 1}, {0, 2}, {1, 2}} {
		expectNone(t, "twice in one", sampleCookie, with(func(dirs lists) { dirs[0][x.b].Name = dirs[0][x.a].Name }))
	}
	expectNone(t, "twice in one", sampleCookie, with(func(dirs lists) { dirs[5][1].Name = "e" }))
	expectMade(t, sampleCookie, with(func(dirs lists) { dirs[6][0].Name = "a" }))
}

// P10.3: cookies rise in a directory, from 1 to the next one less 1, each once
// in the tree.
func TestMakeCookies(t *testing.T) {
	for _, c := range []int64{0, -1, -2, math.MinInt64, math.MinInt32, -1 << 32, -1<<32 + 1, 9, 10, 1<<32 + 1, math.MaxInt64} {
		for dir, l := range sample() {
			for i := range l {
				expectNone(t, "a cookie", sampleCookie, with(func(dirs lists) { dirs[dir][i].Cookie = c }))
			}
		}
	}
	for cookie := int64(-1); cookie < sampleCookie; cookie++ {
		expectNone(t, "the next one or above", cookie, sample())
	}
	for _, cookie := range []int64{sampleCookie, sampleCookie + 1, 1 << 40, math.MaxInt64} {
		expectMade(t, cookie, sample())
	}
	expectMade(t, math.MaxInt64, lists{0: {aFile("a", 1, 1), aFile("b", 2, math.MaxInt64-1)}})
	expectNone(t, "the next one", math.MaxInt64, lists{0: {aFile("a", 1, math.MaxInt64)}})
	expectNone(t, "the same", 4, lists{0: {aFile("a", 1, 2), aFile("b", 2, 2)}})
	expectNone(t, "falling", 4, lists{0: {aFile("a", 1, 3), aFile("b", 2, 2)}})
	expectNone(t, "falling last", 9, lists{0: {aFile("a", 1, 5), aFile("b", 2, 7), aFile("c", 3, 6)}})
	expectNone(t, "falling below the first", 9, lists{0: {aFile("a", 1, 5), aFile("b", 2, 7), aFile("c", 3, 4)}})
	for dir, l := range sample() {
		for i := range l {
			for c := int64(1); c < sampleCookie; c++ {
				if c != l[i].Cookie {
					expectNone(t, "another's cookie", sampleCookie, with(func(dirs lists) { dirs[dir][i].Cookie = c }))
				}
			}
		}
	}
	expectNone(t, "twice in two", 9, lists{0: {aDir("a", 1, 1), aFile("b", 2, 5)}, 1: {aFile("c", 3, 5)}})
	expectNone(t, "twice in two", 9, lists{0: {aDir("a", 1, 5)}, 1: {aFile("c", 3, 5)}})
	for n := 3; n <= api.MaxNodes; n++ {
		expectNone(t, "twice in two", 9, lists{0: {aDir("a", n, 1), aFile("b", 1, 5)}, n: {aFile("c", 2, 5)}})
		expectNone(t, "twice in two", 9, lists{0: {aFile("b", 1, 4), aDir("a", n, 5)}, n: {aFile("c", 2, 4)}})
	}
	expectMade(t, 9, lists{0: {aDir("a", 1, 5), aFile("b", 2, 8)}, 1: {aFile("c", 3, 4), aFile("d", 4, 6)}})
}

// P10.3: shorts from 0 to 1000000.
func TestMakeShorts(t *testing.T) {
	for _, short := range badShorts() {
		for dir, l := range sample() {
			for i := range l {
				expectNone(t, "a short", sampleCookie, with(func(dirs lists) { dirs[dir][i].Short = short }))
			}
		}
	}
	for _, short := range goodShorts() {
		expectMade(t, sampleCookie, with(func(dirs lists) {
			for _, l := range dirs {
				for i := range l {
					l[i].Short = short
				}
			}
		}))
	}
}

// P10.3: directories that are below each other, or themselves, but not below
// the root, beside a tree that has all it should.
func TestMakeRings(t *testing.T) {
	expectNone(t, "below itself", 2, lists{0: nil, 1: {aDir("a", 1, 1)}})
	expectNone(t, "below each other", 3, lists{0: nil, 1: {aDir("a", 2, 1)}, 2: {aDir("a", 1, 2)}})
	for size := 1; size <= 190; size += 27 {
		dirs := sample()
		for i := range size {
			dirs[9+i] = []api.Entry{aDir("a", 9+(i+1)%size, int64(9+i))}
		}
		expectNone(t, "a ring", 1000, dirs)
		dirs[9] = append(dirs[9], aFile("f", 200, 500))
		expectNone(t, "a ring with a file", 1000, dirs)
	}
	expectNone(t, "a ring with the root's own", sampleCookie, with(func(dirs lists) {
		dirs[0][0], dirs[6][0] = aFile("a", 8, 1), aDir("g", 1, 8)
	}))
}

// P10.3: one fault in a tree that else has all it should, in whatever order the
// map is gone through.
func TestMakeOneFault(t *testing.T) {
	dirs := lists{50: nil}
	for n := range 50 {
		dirs[n] = []api.Entry{aDir("a", n+1, int64(n+1)), aFile("b", n+101, int64(n+101))}
	}
	expectMade(t, 1000, dirs)
	for _, fault := range []api.Entry{
		aFile("", 160, 200), aFile("a", 160, 200), aFile("b", 160, 200),
		aFile("c", 0, 200), aFile("c", 201, 200), aFile("c", 101, 200), aFile("c", 150, 200), aDir("c", 160, 200), aDir("c", 50, 200),
		aFile("c", 160, 0), aFile("c", 160, 60), aFile("c", 160, 120), aFile("c", 160, 150), aFile("c", 160, 1000),
		{Name: "c", Node: 160, Cookie: 200, Short: -1}, {Name: "c", Node: 160, Cookie: 200, Short: 1000001},
	} {
		for _, dir := range []int{0, 1, 25, 49} {
			changed := maps.Clone(dirs)
			changed[dir] = append(slices.Clone(dirs[dir]), fault)
			expectNone(t, "one fault", 1000, changed)
			changed[dir][2] = aFile("c", 160, 200)
			expectMade(t, 1000, changed)
		}
	}
}

// roomy is the sample in lists with spare room, and the same room again.
func roomy() (lists, lists) {
	dirs, whole := lists{}, lists{}
	for dir, l := range sample() {
		room := append(slices.Clone(l), aFile("spare", 100, 100), aDir("room", 101, 101), aFile("behind", 102, 102))
		dirs[dir], whole[dir] = room[:len(l)], room
	}
	return dirs, whole
}

// R5: what Make was handed is left as it is, its spare room, too, by Make and
// by the calls behind it.
func TestMakeLeaves(t *testing.T) {
	dirs, whole := roomy()
	_, want := roomy()
	expect := func() {
		t.Helper()
		if !maps.EqualFunc(dirs, sample(), slices.Equal) || !maps.EqualFunc(whole, want, slices.Equal) {
			t.Errorf("what was handed in became %v", whole)
		}
	}
	tr := made(t, sampleCookie, dirs)
	expect()
	link(t, tr, 0, "n", true, 0, 9)
	link(t, tr, 3, "n", false, 0, 10)
	unlink(t, tr, 0, "b", false)
	move(t, tr, 0, "a", 3, "a", 0)
	move(t, tr, 5, "e", 0, "e", 0)
	unlink(t, tr, 6, "g", false)
	expect()
	dirs[0][0].Name = ""
	expectNone(t, "a name", sampleCookie, dirs)
	whole[0][0].Name = "a"
	expect()
}

// R5: what Make was handed can be changed, and the tree stays as it is.
func TestMakeKeepsNothing(t *testing.T) {
	dirs, whole := roomy()
	tr := made(t, sampleCookie, dirs)
	for dir, room := range whole {
		for i := range room {
			room[i] = aFile("changed", 50, 50)
		}
		dirs[dir] = room
	}
	expectSample(t, tr)
	delete(dirs, 1)
	dirs[20] = []api.Entry{aFile("x", 21, 21)}
	expectSample(t, tr)
	clear(dirs)
	link(t, tr, 0, "n", true, 0, 9)
	unlink(t, tr, 0, "n", true)
	expectTree(t, tr, sampleCookie+1, sample())
}
