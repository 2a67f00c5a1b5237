package walk

import (
	"toponym/api"
	"toponym/faces"
	"toponym/tree"
)

// walker goes from entry to entry. Its step alone knows of trees and encodings,
// so that the way itself is the same for all of them.
type walker struct {
	step func(from api.Entry, name string) (api.Entry, api.Errno)
}

// byFaces leaves it to the tree to refuse files.
func byFaces(enc int, t *tree.Tree) walker {
	return walker{step: func(from api.Entry, name string) (api.Entry, api.Errno) {
		l, err := t.List(from.Node)
		if err != api.OK {
			return api.Entry{}, err
		}
		e, ok := faces.Find(enc, l, name)
		if !ok {
			return api.Entry{}, api.ErrNone
		}
		return e, api.OK
	}}
}

// follow begins with what would be the root's entry, if it stood in one.
func (w walker) follow(names []string) (api.Entry, api.Errno) {
	reached := api.Entry{Dir: true}
	for _, name := range names {
		next, err := w.step(reached, name)
		if err != api.OK {
			return api.Entry{}, err
		}
		reached = next
	}
	return reached, api.OK
}
