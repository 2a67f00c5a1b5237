package fs_test

import (
	"fmt"
	"hash/fnv"
	"maps"
	"slices"
	"strings"

	"toponym/api"
	"toponym/escape"
	"toponym/tree"
)

// ruled says the chapters over again: what is on the disk stands in lists of
// entries, and of the vault it is counted how many frames are used. It has a
// disk's calls, too.
type ruled struct {
	enc       int
	dirs      map[int][]api.Entry
	cookie    int64
	all, used int // frames of a bank
	pending   int
}

// newRuled has a root alone, by one frame.
func newRuled(enc, sectors int) *ruled {
	return &ruled{enc: enc, dirs: map[int][]api.Entry{0: nil}, cookie: 1, all: sectors/2 - 1, used: 1}
}

// ruledOf goes on from a tree that stands in a vault with so much room.
func ruledOf(enc, sectors int, tr *tree.Tree, room int) *ruled {
	r := newRuled(enc, sectors)
	r.cookie, r.used = tr.Cookie(), r.all-room
	for _, dir := range tr.Dirs() {
		r.dirs[dir], _ = tr.List(dir)
	}
	return r
}

func (r *ruled) clone() *ruled {
	c := *r
	c.dirs = map[int][]api.Entry{}
	for dir, l := range r.dirs {
		c.dirs[dir] = slices.Clone(l)
	}
	return &c
}

func hashed(raw string) uint32 {
	h := fnv.New32a()
	h.Write([]byte(raw))
	return h.Sum32()
}

func isLong(enc int, raw string) bool {
	return len(escape.Present(enc, raw)) >= 256
}

func faceOf(enc int, e api.Entry) string {
	if e.Short != 0 {
		return fmt.Sprintf("%%~%08x-%d", hashed(e.Name), e.Short)
	}
	return escape.Present(enc, e.Name)
}

func split(path string) ([]string, api.Errno) {
	switch {
	case len(path) >= 1025:
		return nil, api.ErrLong
	case path == "/":
		return nil, api.OK
	case !strings.HasPrefix(path, "/"):
		return nil, api.ErrName
	}
	names := strings.Split(path, "/")[1:]
	for _, no := range []string{"", ".", ".."} {
		if slices.Contains(names, no) {
			return nil, api.ErrName
		}
	}
	if len(names) >= 17 {
		return nil, api.ErrLong
	}
	return names, api.OK
}

// at finds an entry by its face; it has a place of its own, as it may be one of
// none.
func (r *ruled) at(dir int, face string) int {
	return slices.IndexFunc(r.dirs[dir], func(e api.Entry) bool { return faceOf(r.enc, e) == face })
}

func (r *ruled) follow(names []string) (int, bool, api.Errno) {
	node, isDir := 0, true
	for _, name := range names {
		if !isDir {
			return 0, false, api.ErrNotDir
		}
		i := r.at(node, name)
		if i < 0 {
			return 0, false, api.ErrNone
		}
		node, isDir = r.dirs[node][i].Node, r.dirs[node][i].Dir
	}
	return node, isDir, api.OK
}

// parent tells the entry's place, too: below 0 where none has that face.
func (r *ruled) parent(path string) (int, string, int, api.Errno) {
	names, err := split(path)
	if err != api.OK {
		return 0, "", 0, err
	}
	if len(names) == 0 {
		return 0, "", 0, api.ErrArg
	}
	last := names[len(names)-1]
	dir, isDir, err := r.follow(names[:len(names)-1])
	if err != api.OK {
		return 0, "", 0, err
	}
	if !isDir {
		return 0, "", 0, api.ErrNotDir
	}
	return dir, last, r.at(dir, last), api.OK
}

func (r *ruled) restored(name string) (string, api.Errno) {
	if len(name) >= 256 {
		return "", api.ErrLong
	}
	return escape.Restore(r.enc, name)
}

// keep finds room for a deed of so many bytes, or a renewal makes it.
func (r *ruled) keep(bytes int) api.Errno {
	need := framesOf(bytes)
	if r.used+need > r.all {
		renewed := framesOf(r.imageBytes())
		if renewed > r.all {
			return api.ErrFull
		}
		r.used, r.pending = renewed, 0
	}
	if r.used+need > r.all {
		return api.ErrFull
	}
	r.used, r.pending = r.used+need, r.pending+need
	return api.OK
}

func framesOf(bytes int) int {
	return (bytes + 61) / 62
}

func (r *ruled) imageBytes() int {
	bytes := 8 + 2
	for _, l := range r.dirs {
		bytes += 2 + 2
		for _, e := range l {
			bytes += 1 + len(e.Name) + 2 + 1 + 8 + 4
		}
	}
	return bytes
}

// nodes are the numbers that are out.
func (r *ruled) nodes() []int {
	var out []int
	for _, l := range r.dirs {
		for _, e := range l {
			out = append(out, e.Node)
		}
	}
	return out
}

func (r *ruled) has(dir int, name string) bool {
	return slices.ContainsFunc(r.dirs[dir], func(e api.Entry) bool { return e.Name == name })
}

func (r *ruled) put(dir int, e api.Entry) {
	e.Cookie = r.cookie
	r.cookie++
	r.dirs[dir] = append(r.dirs[dir], e)
}

func (r *ruled) link(dir int, name string, isDir bool, short int) (int, api.Errno) {
	out, node := r.nodes(), 1
	for slices.Contains(out, node) {
		node++
	}
	switch {
	case len(name) >= 256:
		return 0, api.ErrArg
	case name == "" || name == "." || name == ".." || strings.ContainsAny(name, "/\x00"):
		return 0, api.ErrName
	case r.has(dir, name):
		return 0, api.ErrExists
	case node >= 201:
		return 0, api.ErrMany
	}
	if err := r.keep(1 + 2 + 1 + len(name) + 1 + 4); err != api.OK {
		return 0, err
	}
	r.put(dir, api.Entry{Name: name, Node: node, Dir: isDir, Short: short})
	if isDir {
		r.dirs[node] = nil
	}
	return node, api.OK
}

func (r *ruled) isBelow(dir, node int) bool {
	return slices.ContainsFunc(r.dirs[dir], func(e api.Entry) bool { return e.Node == node || r.isBelow(e.Node, node) })
}

func (r *ruled) Lookup(path string) (int, bool, api.Errno) {
	names, err := split(path)
	if err != api.OK {
		return 0, false, err
	}
	return r.follow(names)
}

func (r *ruled) Raw(path string) (string, api.Errno) {
	dir, _, i, err := r.parent(path)
	switch {
	case err != api.OK:
		return "", err
	case i < 0:
		return "", api.ErrNone
	}
	return r.dirs[dir][i].Name, api.OK
}

func (r *ruled) List(path string, at int64, n int) ([]string, int64, api.Errno) {
	dir, isDir, err := r.Lookup(path)
	switch {
	case err != api.OK:
		return nil, 0, err
	case !isDir:
		return nil, 0, api.ErrNotDir
	case n < 1 || n > 64:
		return nil, 0, api.ErrArg
	case at < 0:
		return nil, 0, api.ErrCursor
	}
	var names []string
	for _, e := range r.dirs[dir] {
		if e.Cookie > at && len(names) < n {
			names, at = append(names, faceOf(r.enc, e)), e.Cookie
		}
	}
	return names, at, api.OK
}

func (r *ruled) Make(path string, isDir bool) (int, api.Errno) {
	dir, name, i, err := r.parent(path)
	switch {
	case err != api.OK:
		return 0, err
	case i >= 0:
		return 0, api.ErrExists
	}
	raw, err := r.restored(name)
	if err != api.OK {
		return 0, err
	}
	return r.link(dir, raw, isDir, 0)
}

func (r *ruled) Remove(path string, isDir bool) api.Errno {
	dir, _, i, err := r.parent(path)
	switch {
	case err != api.OK:
		return err
	case i < 0:
		return api.ErrNone
	}
	e := r.dirs[dir][i]
	switch {
	case isDir && !e.Dir:
		return api.ErrNotDir
	case !isDir && e.Dir:
		return api.ErrDir
	case len(r.dirs[e.Node]) > 0:
		return api.ErrNotEmpty
	}
	if err := r.keep(1 + 2 + 1 + len(e.Name) + 1); err != api.OK {
		return err
	}
	r.dirs[dir] = slices.Delete(r.dirs[dir], i, i+1)
	delete(r.dirs, e.Node)
	return api.OK
}

func (r *ruled) Rename(from, to string) api.Errno {
	dir, _, i, err := r.parent(from)
	switch {
	case err != api.OK:
		return err
	case i < 0:
		return api.ErrNone
	}
	toDir, name, j, err := r.parent(to)
	switch {
	case err != api.OK:
		return err
	case j >= 0:
		return api.ErrExists
	}
	raw, err := r.restored(name)
	if err != api.OK {
		return err
	}
	e := r.dirs[dir][i]
	if e.Node == toDir || r.isBelow(e.Node, toDir) {
		return api.ErrLoop
	}
	if err := r.keep(1 + 2 + 1 + len(e.Name) + 2 + 1 + len(raw) + 4); err != api.OK {
		return err
	}
	r.dirs[dir] = slices.Delete(r.dirs[dir], i, i+1)
	e.Name, e.Short = raw, 0
	r.put(toDir, e)
	return api.OK
}

func (r *ruled) Plant(path, raw string, isDir bool) (int, api.Errno) {
	dir, is, err := r.Lookup(path)
	switch {
	case err != api.OK:
		return 0, err
	case !is:
		return 0, api.ErrNotDir
	}
	return r.link(dir, raw, isDir, r.picked(dir, raw))
}

func (r *ruled) picked(dir int, raw string) int {
	if !isLong(r.enc, raw) {
		return 0
	}
	short := 1
	for slices.ContainsFunc(r.dirs[dir], func(e api.Entry) bool { return e.Short == short && hashed(e.Name) == hashed(raw) }) {
		short++
	}
	return short
}

func (r *ruled) Sync() api.Errno {
	r.pending = 0
	return api.OK
}

func (r *ruled) Over() bool { return false }

func (r *ruled) Room() int { return r.all - r.used }

func (r *ruled) Tree() *tree.Tree {
	tr, err := tree.Make(r.cookie, maps.Clone(r.dirs))
	if err != api.OK {
		panic("there is no such tree")
	}
	return tr
}
