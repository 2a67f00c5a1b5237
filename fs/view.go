package fs

import (
	"toponym/api"
	"toponym/faces"
	"toponym/tree"
	"toponym/walk"
)

// view is a tree as it is presented: all that one call asks, it asks of one.
type view struct {
	enc  int
	tree *tree.Tree
}

// place is what a path leads to that has a last name, whether that is there or
// not.
type place struct {
	dir   int
	name  string
	entry api.Entry
	there bool
}

func (v view) place(path string) (place, api.Errno) {
	dir, name, err := walk.Parent(v.enc, v.tree, path)
	if err != api.OK {
		return place{}, err
	}
	l, err := v.tree.List(dir)
	if err != api.OK {
		return place{}, err
	}
	e, ok := faces.Find(v.enc, l, name)
	return place{dir: dir, name: name, entry: e, there: ok}, api.OK
}

// taken goes by the face alone: what the last name would be restored to may be
// the name of an entry with another face.
func (v view) taken(path string) (int, api.Entry, api.Errno) {
	p, err := v.place(path)
	if err != api.OK {
		return 0, api.Entry{}, err
	}
	if !p.there {
		return 0, api.Entry{}, api.ErrNone
	}
	return p.dir, p.entry, api.OK
}

// free answers the name on the disk, too; that of a short name that is there
// isn't asked for, as there is none.
func (v view) free(path string) (int, string, api.Errno) {
	p, err := v.place(path)
	if err != api.OK {
		return 0, "", err
	}
	if p.there {
		return 0, "", api.ErrExists
	}
	raw, err := faces.Raw(v.enc, p.name)
	if err != api.OK {
		return 0, "", err
	}
	return p.dir, raw, api.OK
}

// directory leaves it to the tree to refuse files.
func (v view) directory(path string) (int, []api.Entry, api.Errno) {
	dir, _, err := walk.Node(v.enc, v.tree, path)
	if err != api.OK {
		return 0, nil, err
	}
	l, err := v.tree.List(dir)
	if err != api.OK {
		return 0, nil, err
	}
	return dir, l, api.OK
}

func (v view) clean() bool {
	for _, dir := range v.tree.Dirs() {
		l, err := v.tree.List(dir)
		if err != api.OK || !faces.Clean(v.enc, l) {
			return false
		}
	}
	return true
}
