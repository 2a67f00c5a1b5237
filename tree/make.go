package tree

import (
	"slices"

	"toponym/api"
	"toponym/ids"
)

// Make fills directory by directory, from the root down: a key that it never
// comes to is no directory's, or that of one that isn't below the root.
func Make(cookie int64, dirs map[int][]api.Entry) (*Tree, api.Errno) {
	t := New()
	t.cookie = cookie
	filled := 0
	var fill func(dir int) bool
	fill = func(dir int) bool {
		l, isKey := dirs[dir]
		if !isKey {
			return false
		}
		filled++
		for _, e := range l {
			if !t.fits(dir, e) {
				return false
			}
			t.put(dir, e)
			if e.Dir && !fill(e.Node) {
				return false
			}
		}
		return true
	}
	if cookie < 1 || !fill(root) || filled != len(dirs) {
		return nil, api.ErrForm
	}
	t.numbers = *ids.New(api.MaxNodes, t.used()...)
	return t, api.OK
}

// fits asks of an entry by itself, and beside those that are there already: so
// no directory is filled twice.
func (t *Tree) fits(dir int, e api.Entry) bool {
	if e.Node < 1 || e.Node > api.MaxNodes || t.nodes[e.Node].kind != nothing {
		return false
	}
	if askEntry(e.Name, e.Short) != api.OK || t.place(dir, e.Name) >= 0 {
		return false
	}
	return e.Cookie > t.lastCookie(dir) && e.Cookie < t.cookie && !t.hasCookie(e.Cookie)
}

// lastCookie of no entries is one less than the least cookie.
func (t *Tree) lastCookie(dir int) int64 {
	l := t.nodes[dir].entries
	if len(l) == 0 {
		return 0
	}
	return l[len(l)-1].Cookie
}

func (t *Tree) hasCookie(cookie int64) bool {
	return slices.ContainsFunc(t.nodes[:], func(n node) bool {
		return slices.ContainsFunc(n.entries, func(e api.Entry) bool {
			return e.Cookie == cookie
		})
	})
}

func (t *Tree) used() []int {
	var numbers []int
	for n := range t.nodes {
		if n != root && t.nodes[n].kind != nothing {
			numbers = append(numbers, n)
		}
	}
	return numbers
}
