package tree

import (
	"toponym/api"
	"toponym/escape"
)

const mostShort = 1000000

// Link takes a number only where nothing else can go wrong any more.
func (t *Tree) Link(dir int, name string, isDir bool, short int) (int, api.Errno) {
	if err := t.admits(dir, name, short); err != api.OK {
		return 0, err
	}
	if err := t.hasPlace(dir, name); err != api.OK {
		return 0, err
	}
	n, ok := t.numbers.Take()
	if !ok {
		return 0, api.ErrMany
	}
	t.add(dir, api.Entry{Name: name, Node: n, Dir: isDir, Short: short})
	return n, api.OK
}

// Unlink leaves nothing of the node, as its number may come again.
func (t *Tree) Unlink(dir int, name string, isDir bool) api.Errno {
	e, err := t.Find(dir, name)
	switch {
	case err != api.OK:
		return err
	case isDir && !e.Dir:
		return api.ErrNotDir
	case e.Dir && !isDir:
		return api.ErrDir
	case len(t.nodes[e.Node].entries) > 0:
		return api.ErrNotEmpty
	}
	t.remove(dir, name)
	t.nodes[e.Node] = node{}
	t.numbers.Give(e.Node)
	return api.OK
}

// Move leaves what is below the node where it stands: that hangs on its number.
func (t *Tree) Move(dir int, name string, to int, as string, short int) api.Errno {
	e, err := t.Find(dir, name)
	if err != api.OK {
		return err
	}
	if err := t.admits(to, as, short); err != api.OK {
		return err
	}
	if e.Node == to || t.isBelow(e.Node, to) {
		return api.ErrLoop
	}
	if err := t.hasPlace(to, as); err != api.OK {
		return err
	}
	t.remove(dir, name)
	e.Name, e.Short = as, short
	t.add(to, e)
	return api.OK
}

// admits asks what comes ahead of Move's loop, and hasPlace what comes behind
// it.
func (t *Tree) admits(dir int, name string, short int) api.Errno {
	if err := t.open(dir); err != api.OK {
		return err
	}
	return askEntry(name, short)
}

func askEntry(name string, short int) api.Errno {
	if !escape.Good(name) {
		return api.ErrName
	}
	if short < 0 || short > mostShort {
		return api.ErrArg
	}
	return api.OK
}

// hasPlace asks for the cookie, too: behind the greatest number there is none,
// and one below it would not rise.
func (t *Tree) hasPlace(dir int, name string) api.Errno {
	if t.place(dir, name) >= 0 {
		return api.ErrExists
	}
	if t.cookie < 1 {
		return api.ErrMany
	}
	return api.OK
}

func (t *Tree) add(dir int, e api.Entry) {
	e.Cookie = t.cookie
	t.cookie++
	t.put(dir, e)
}
