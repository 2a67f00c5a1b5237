package tree

import (
	"slices"
	"strings"

	"toponym/api"
)

const root = 0

// kind tells a number that no node has from one that has no entries.
type kind int

const (
	nothing kind = iota
	file
	directory
)

type node struct {
	kind    kind
	entries []api.Entry
}

// open asks List's questions; behind OK the number is a place of nodes.
func (t *Tree) open(dir int) api.Errno {
	if dir < root || dir > api.MaxNodes {
		return api.ErrNone
	}
	switch t.nodes[dir].kind {
	case directory:
		return api.OK
	case file:
		return api.ErrNotDir
	}
	return api.ErrNone
}

// place is below 0 of a name that isn't there.
func (t *Tree) place(dir int, name string) int {
	return slices.IndexFunc(t.nodes[dir].entries, func(e api.Entry) bool {
		return e.Name == name
	})
}

// isBelow ends without knowing where it was: each node stands in one entry.
func (t *Tree) isBelow(dir, n int) bool {
	var search func(dir int) bool
	search = func(dir int) bool {
		for _, e := range t.nodes[dir].entries {
			if e.Node == n || search(e.Node) {
				return true
			}
		}
		return false
	}
	return search(dir)
}

// put needs look for no place: each entry's cookie is above those that are
// there. The name may be cut from a text that needn't be kept for it.
func (t *Tree) put(dir int, e api.Entry) {
	e.Name = strings.Clone(e.Name)
	t.nodes[e.Node].kind = file
	if e.Dir {
		t.nodes[e.Node].kind = directory
	}
	t.nodes[dir].entries = append(t.nodes[dir].entries, e)
}

func (t *Tree) remove(dir int, name string) {
	at := t.place(dir, name)
	t.nodes[dir].entries = slices.Delete(t.nodes[dir].entries, at, at+1)
}
