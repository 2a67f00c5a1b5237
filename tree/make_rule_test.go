package tree_test

import (
	"maps"
	"slices"
	"strconv"
	"testing"

	"toponym/api"
	"toponym/tree"
)

// isTrees asks the chapter's questions of what is handed to Make, one by one.
func isTrees(cookie int64, dirs lists) bool {
	r := &ruled{}
	for dir, l := range dirs {
		for _, e := range l {
			r.all = append(r.all, standing{dir, e})
		}
	}
	_, hasRoot := dirs[0]
	return cookie >= 1 && hasRoot && r.isKeyed(dirs) && r.isOfGood(cookie) && isOfRising(dirs) && r.isBelowRoot()
}

func (r *ruled) isKeyed(dirs lists) bool {
	for key := range dirs {
		at := r.of(key)
		if key != 0 && (at < 0 || !r.all[at].Dir) {
			return false
		}
	}
	for _, s := range r.all {
		if _, isKey := dirs[s.Node]; s.Dir && !isKey {
			return false
		}
	}
	return true
}

// isOfGood asks of each entry by itself, and of it beside each other one.
func (r *ruled) isOfGood(cookie int64) bool {
	for i, s := range r.all {
		if s.Node < 1 || s.Node > api.MaxNodes || s.Cookie < 1 || s.Cookie > cookie-1 {
			return false
		}
		if isBad(s.Name).applies() || isNoShort(s.Short).applies() {
			return false
		}
		for _, o := range r.all[:i] {
			if o.Node == s.Node || o.Cookie == s.Cookie || o.dir == s.dir && o.Name == s.Name {
				return false
			}
		}
	}
	return true
}

func isOfRising(dirs lists) bool {
	for _, l := range dirs {
		for i := 1; i < len(l); i++ {
			if l[i].Cookie <= l[i-1].Cookie {
				return false
			}
		}
	}
	return true
}

// isBelowRoot goes up from each directory: who doesn't come to the root within
// as many steps as there are entries never does.
func (r *ruled) isBelowRoot() bool {
	for _, s := range r.all {
		dir := s.dir
		for range r.all {
			if dir != 0 {
				dir = r.all[r.of(dir)].dir
			}
		}
		if dir != 0 {
			return false
		}
	}
	return true
}

// expectForm makes what should be made, and nothing else.
func expectForm(t *testing.T, cookie int64, dirs lists) bool {
	t.Helper()
	if !isTrees(cookie, dirs) {
		expectNone(t, "by the chapter", cookie, dirs)
		return false
	}
	tr := made(t, cookie, dirs)
	if !tree.Same(tr, made(t, tr.Cookie(), listsOf(t, tr))) {
		t.Errorf("Make(%d, %v) has %v", cookie, dirs, listsOf(t, tr))
	}
	for dir, want := range dirs {
		if l, err := tr.List(dir); !slices.Equal(l, want) || err != api.OK {
			t.Errorf("Make(%d, %v): List(%d) = %v, %d", cookie, dirs, dir, l, err)
		}
	}
	return true
}

// few are all lists of up to so many of the entries.
func few(entries []api.Entry, most int) [][]api.Entry {
	all := [][]api.Entry{nil}
	for next := 0; next < len(all); next++ {
		l := all[next]
		if len(l) == most {
			continue
		}
		for _, e := range entries {
			all = append(all, append(slices.Clone(l), e))
		}
	}
	return all
}

// P10.3: all choices of three directories, the root among them or not, of up to
// two entries of some each.
func TestMakeAll(t *testing.T) {
	var entries []api.Entry
	for _, n := range []int{1, 2} {
		for _, cookie := range []int64{1, 2, 3} {
			entries = append(entries, aDir("a", n, cookie), aFile("b", n, cookie))
		}
	}
	right := 0
	ones := few(entries, 1)
	for _, root := range few(entries, 2) {
		for _, one := range ones {
			for _, two := range ones {
				for keys := range 8 {
					dirs := lists{}
					for key, l := range [][]api.Entry{root, one, two} {
						if keys>>key&1 == 1 {
							dirs[key] = l
						}
					}
					if expectForm(t, 4, dirs) {
						right++
					}
				}
			}
		}
		if t.Failed() {
			t.FailNow()
		}
	}
	if right < 50 {
		t.Errorf("%d were made", right)
	}
}

// wrong changes one thing, mostly to what it can't be.
func wrong(dirs lists, draw func(n int) int) {
	keys := slices.Sorted(maps.Keys(dirs))
	key := keys[draw(len(keys))]
	if len(dirs[key]) == 0 {
		if draw(2) == 0 {
			delete(dirs, key)
		} else {
			dirs[draw(210)-5] = nil
		}
		return
	}
	e := &dirs[key][draw(len(dirs[key]))]
	switch draw(7) {
	case 0:
		e.Node = draw(210) - 5
	case 1:
		e.Cookie = int64(draw(60)) - 2
	case 2:
		e.Dir = !e.Dir
	case 3:
		e.Name = []string{"", ".", "a/", "0", "1", "2", "fine"}[draw(7)]
	case 4:
		e.Short = []int{-1, 0, 1, 1000000, 1000001}[draw(5)]
	case 5:
		other := keys[draw(len(keys))]
		dirs[other] = append(dirs[other], *e)
	case 6:
		other := keys[draw(len(keys))]
		dirs[key], dirs[other] = dirs[other], dirs[key]
	}
}

// P10.3: trees of some entries, and these with one thing changed, or two.
func TestMakeChanged(t *testing.T) {
	draw := drawer()
	right, none := 0, 0
	for range 400 {
		x := pair{tree.New(), newRuled()}
		for i := range 12 {
			dirs := x.tr.Dirs()
			x.do(t, call{kind: "Link", dir: dirs[draw(len(dirs))], name: strconv.Itoa(i % 5), isDir: draw(2) == 0})
		}
		cookie := x.r.next + int64(draw(30))
		for changes := range 40 {
			dirs := lists{}
			for dir, l := range x.r.lists() {
				dirs[dir] = slices.Clone(l)
			}
			for range changes % 3 {
				wrong(dirs, draw)
			}
			if expectForm(t, cookie, dirs) {
				right++
			} else {
				none++
			}
		}
		if t.Failed() {
			t.FailNow()
		}
	}
	if right < 1000 || none < 1000 {
		t.Errorf("%d were made, %d weren't", right, none)
	}
}
