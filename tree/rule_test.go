package tree_test

import (
	"slices"
	"strconv"
	"strings"
	"testing"

	"toponym/api"
	"toponym/tree"
)

// standing is an entry, and the directory that it stands in.
type standing struct {
	dir int
	api.Entry
}

// ruled says the chapter over again: one list of all entries, in the order in
// which they came, is asked for everything.
type ruled struct {
	all  []standing
	next int64
}

func newRuled() *ruled {
	return &ruled{next: 1}
}

func (r *ruled) clone() *ruled {
	return &ruled{slices.Clone(r.all), r.next}
}

// of is the place of the entry that a node stands in.
func (r *ruled) of(n int) int {
	return slices.IndexFunc(r.all, func(s standing) bool { return s.Node == n })
}

func (r *ruled) named(dir int, name string) int {
	return slices.IndexFunc(r.all, func(s standing) bool { return s.dir == dir && s.Name == name })
}

func (r *ruled) lists() lists {
	dirs := lists{0: nil}
	for _, s := range r.all {
		dirs[s.dir] = append(dirs[s.dir], s.Entry)
		if s.Dir && dirs[s.Node] == nil {
			dirs[s.Node] = []api.Entry{}
		}
	}
	return dirs
}

func (r *ruled) free() int {
	n := 1
	for r.of(n) >= 0 {
		n++
	}
	return n
}

// isAbove asks from below on: of a node, of what it stands in, and so on.
func (r *ruled) isAbove(n, below int) bool {
	for below != 0 {
		if below == n {
			return true
		}
		below = r.all[r.of(below)].dir
	}
	return false
}

// question is an error, and whether it applies; those behind one that does
// aren't asked.
type question struct {
	err     api.Errno
	applies func() bool
}

func first(questions ...question) api.Errno {
	for _, q := range questions {
		if q.applies() {
			return q.err
		}
	}
	return api.OK
}

func (r *ruled) isNone(n int) question {
	return question{api.ErrNone, func() bool { return n != 0 && r.of(n) < 0 }}
}

func (r *ruled) isFile(n int) question {
	return question{api.ErrNotDir, func() bool { return n != 0 && !r.all[r.of(n)].Dir }}
}

func (r *ruled) lacks(dir int, name string) question {
	return question{api.ErrNone, func() bool { return r.named(dir, name) < 0 }}
}

func (r *ruled) has(dir int, name string) question {
	return question{api.ErrExists, func() bool { return r.named(dir, name) >= 0 }}
}

func isBad(name string) question {
	return question{api.ErrName, func() bool {
		return name == "" || len(name) > 255 || name == "." || name == ".." || strings.ContainsAny(name, "/\x00")
	}}
}

func isNoShort(short int) question {
	return question{api.ErrArg, func() bool { return short < 0 || short > 1000000 }}
}

// call is one of the three that change a tree.
type call struct {
	kind  string
	dir   int
	name  string
	isDir bool
	to    int
	as    string
	short int
}

func (r *ruled) do(c call) (int, api.Errno) {
	switch c.kind {
	case "Link":
		return r.link(c)
	case "Unlink":
		return 0, r.unlink(c)
	}
	return 0, r.move(c)
}

func (r *ruled) link(c call) (int, api.Errno) {
	err := first(r.isNone(c.dir), r.isFile(c.dir), isBad(c.name), isNoShort(c.short), r.has(c.dir, c.name),
		question{api.ErrMany, func() bool { return len(r.all) == api.MaxNodes }})
	if err != api.OK {
		return 0, err
	}
	n := r.free()
	r.all = append(r.all, standing{c.dir, api.Entry{Name: c.name, Node: n, Dir: c.isDir, Cookie: r.next, Short: c.short}})
	r.next++
	return n, api.OK
}

func (r *ruled) unlink(c call) api.Errno {
	at := r.named(c.dir, c.name)
	err := first(r.isNone(c.dir), r.isFile(c.dir), r.lacks(c.dir, c.name),
		question{api.ErrNotDir, func() bool { return c.isDir && !r.all[at].Dir }},
		question{api.ErrDir, func() bool { return !c.isDir && r.all[at].Dir }},
		question{api.ErrNotEmpty, func() bool { return len(r.lists()[r.all[at].Node]) > 0 }})
	if err == api.OK {
		r.all = slices.Delete(r.all, at, at+1)
	}
	return err
}

func (r *ruled) move(c call) api.Errno {
	at := r.named(c.dir, c.name)
	err := first(r.isNone(c.dir), r.isFile(c.dir), r.lacks(c.dir, c.name),
		r.isNone(c.to), r.isFile(c.to), isBad(c.as), isNoShort(c.short),
		question{api.ErrLoop, func() bool { return r.isAbove(r.all[at].Node, c.to) }},
		r.has(c.to, c.as))
	if err != api.OK {
		return err
	}
	s := r.all[at]
	r.all = slices.Delete(r.all, at, at+1)
	s.dir, s.Name, s.Short, s.Cookie = c.to, c.as, c.short, r.next
	r.all = append(r.all, s)
	r.next++
	return api.OK
}

func played(tr *tree.Tree, c call) (int, api.Errno) {
	switch c.kind {
	case "Link":
		return tr.Link(c.dir, c.name, c.isDir, c.short)
	case "Unlink":
		return 0, tr.Unlink(c.dir, c.name, c.isDir)
	}
	return 0, tr.Move(c.dir, c.name, c.to, c.as, c.short)
}

// pair is a tree, and what the chapter says of it.
type pair struct {
	tr *tree.Tree
	r  *ruled
}

func (x pair) clone() pair {
	return pair{x.tr.Clone(), x.r.clone()}
}

// do tells what should have come of the call, too.
func (x pair) do(t *testing.T, c call) api.Errno {
	t.Helper()
	want, wantErr := x.r.do(c)
	n, err := played(x.tr, c)
	if n != want || err != wantErr {
		t.Errorf("%+v = %d, %d; want %d, %d", c, n, err, want, wantErr)
	}
	return wantErr
}

func (x pair) expect(t *testing.T) {
	t.Helper()
	expectTree(t, x.tr, x.r.next, x.r.lists())
}

// expectWhole holds a tree that is made of what should be there against it, and
// a clone, too, and what all of them give next.
func (x pair) expectWhole(t *testing.T) {
	t.Helper()
	x.expect(t)
	same := []*tree.Tree{x.tr.Clone(), made(t, x.r.next, x.r.lists()), x.tr.Clone().Clone()}
	for i, tr := range same {
		expectSame(t, "of the same entries", x.tr, tr, true)
		next := pair{tr, x.r.clone()}
		next.do(t, call{kind: "Link", dir: 0, name: "next", isDir: i > 0})
		next.expect(t)
	}
	x.expect(t)
}

// calls are all of the three kinds, of these directories and these names, and a
// few that are wrong whatever stands there.
func calls(dirs []int, names []string) []call {
	all := []call{
		{kind: "Link", dir: 0, name: "", short: -1},
		{kind: "Link", dir: 0, name: names[0], short: 1000001},
		{kind: "Move", dir: 0, name: names[0], to: 1, as: "..", short: -1},
		{kind: "Move", dir: 0, name: names[0], to: 1, as: names[0], short: -1},
		{kind: "Unlink", dir: 0, name: "", isDir: true},
	}
	for _, dir := range dirs {
		for _, name := range names {
			for _, isDir := range []bool{false, true} {
				all = append(all, call{kind: "Link", dir: dir, name: name, isDir: isDir, short: dir})
				all = append(all, call{kind: "Unlink", dir: dir, name: name, isDir: isDir})
			}
			for _, to := range dirs {
				for i, as := range names {
					all = append(all, call{kind: "Move", dir: dir, name: name, to: to, as: as, short: i})
				}
			}
		}
	}
	return all
}

// explore does each of the calls on a clone, and, of those that went right, goes
// on from there.
func explore(t *testing.T, x pair, all []call, most int, row []call) {
	t.Helper()
	failed := x.clone()
	for _, c := range all {
		y := x.clone()
		if y.do(t, c) != api.OK {
			failed.do(t, c)
			continue
		}
		if most > 1 {
			explore(t, y, all, most-1, append(row, c))
		} else {
			y.expect(t)
		}
		if t.Failed() {
			t.Fatalf("behind %+v: %+v", row, c)
		}
	}
	failed.expect(t)
	x.expectWhole(t)
	if t.Failed() {
		t.Fatalf("behind %+v", row)
	}
}

// P10.1, P10.2, P10.3: all rows of up to four calls that go right, and each of
// those that don't behind each of them.
func TestRows(t *testing.T) {
	explore(t, pair{tree.New(), newRuled()}, calls([]int{0, 1, 2}, []string{"a", "b"}), 4, nil)
}

// P10.1, P10.2, P10.3: likewise, of a tree that has some, below each other.
func TestRowsFurther(t *testing.T) {
	x := pair{tree.New(), newRuled()}
	x.do(t, call{kind: "Link", dir: 0, name: "a", isDir: true})
	x.do(t, call{kind: "Link", dir: 1, name: "a", isDir: true})
	x.do(t, call{kind: "Link", dir: 2, name: "b"})
	x.do(t, call{kind: "Link", dir: 0, name: "b", isDir: true})
	explore(t, x, calls([]int{0, 1, 2, 3, 4}, []string{"a", "b"}), 2, nil)
}

// drawer picks numbers below n by a small sum.
func drawer() func(n int) int {
	state := uint32(1)
	return func(n int) int {
		state = state*1664525 + 1013904223
		return int(state>>8) % n
	}
}

// drawn is a call of whatever is there, and of a little that isn't.
func (r *ruled) drawn(draw func(n int) int, tends, names int) call {
	dirs := []int{0, 0, draw(api.MaxNodes+4) - 1}
	entries := []standing{{dirs[draw(3)], api.Entry{Name: "none"}}}
	for _, s := range r.all {
		if s.Dir {
			dirs = append(dirs, s.Node)
		}
		entries = append(entries, s)
	}
	s := entries[draw(len(entries))]
	c := call{dir: s.dir, name: s.Name, isDir: s.Dir, to: dirs[draw(len(dirs))], as: strconv.Itoa(draw(names)), short: draw(3) * draw(500001)}
	if draw(20) == 0 {
		c.isDir, c.short = !c.isDir, -c.short
	}
	switch kind := draw(12); {
	case kind < tends:
		c.kind, c.dir, c.name, c.isDir = "Link", c.to, c.as, draw(3) > 0
	case kind < 9:
		c.kind = "Unlink"
	default:
		c.kind = "Move"
	}
	return c
}

// outcome is a kind of call, and what came of it.
type outcome struct {
	kind string
	err  api.Errno
}

// P10.1, P10.2, P10.3: of long rows, that grow to as many nodes as may be, and
// shrink, narrow and wide; whatever may come of a call comes there.
func TestLongRows(t *testing.T) {
	draw := drawer()
	came := map[outcome]int{}
	for round := range 24 {
		x := pair{tree.New(), newRuled()}
		names := []int{3, 10, 300}[round%3]
		for i := range 1500 {
			tends := 7
			if i/400%2 == 1 {
				tends = 3
			}
			c := x.r.drawn(draw, tends, names)
			came[outcome{c.kind, x.do(t, c)}]++
			if i%50 == 0 {
				x.expectWhole(t)
			} else if i%5 == 0 {
				x.expect(t)
			}
			if t.Failed() {
				t.Fatalf("round %d, call %d: %+v", round, i, c)
			}
		}
		x.expectWhole(t)
	}
	for _, o := range []outcome{
		{"Link", api.OK}, {"Link", api.ErrNone}, {"Link", api.ErrNotDir}, {"Link", api.ErrArg}, {"Link", api.ErrExists}, {"Link", api.ErrMany},
		{"Unlink", api.OK}, {"Unlink", api.ErrNone}, {"Unlink", api.ErrNotDir}, {"Unlink", api.ErrDir}, {"Unlink", api.ErrNotEmpty},
		{"Move", api.OK}, {"Move", api.ErrNone}, {"Move", api.ErrNotDir}, {"Move", api.ErrArg}, {"Move", api.ErrLoop}, {"Move", api.ErrExists},
	} {
		if came[o] < 5 {
			t.Errorf("%v came %d times", o, came[o])
		}
	}
}
