package deed

import (
	"toponym/api"
	"toponym/tree"
)

const (
	mostNode  = 65535
	mostShort = 1000000
)

// kind tells what a deed has beside Dir and Name (As goes with To), and what it
// does.
type kind struct {
	hasIsDir bool
	hasTo    bool
	hasShort bool
	do       action
}

func kindOf(n int) (kind, bool) {
	switch n {
	case 1:
		return kind{hasIsDir: true, hasShort: true, do: linkBy((*tree.Tree).Link)}, true
	case 2:
		return kind{hasIsDir: true, do: unlinkBy((*tree.Tree).Unlink)}, true
	case 3:
		return kind{hasTo: true, hasShort: true, do: moveBy((*tree.Tree).Move)}, true
	}
	return kind{}, false
}

// action is a call of the tree's, whatever its arguments are: the deed has them.
type action func(t *tree.Tree, d Deed) (int, api.Errno)

func linkBy(call func(t *tree.Tree, dir int, name string, isDir bool, short int) (int, api.Errno)) action {
	return func(t *tree.Tree, d Deed) (int, api.Errno) {
		return call(t, d.Dir, d.Name, d.IsDir, d.Short)
	}
}

func unlinkBy(call func(t *tree.Tree, dir int, name string, isDir bool) api.Errno) action {
	return func(t *tree.Tree, d Deed) (int, api.Errno) {
		return 0, call(t, d.Dir, d.Name, d.IsDir)
	}
}

func moveBy(call func(t *tree.Tree, dir int, name string, to int, as string, short int) api.Errno) action {
	return func(t *tree.Tree, d Deed) (int, api.Errno) {
		return 0, call(t, d.Dir, d.Name, d.To, d.As, d.Short)
	}
}

// ask answers no kind beside an error.
func ask(d Deed) (kind, api.Errno) {
	k, ok := kindOf(d.Kind)
	if !ok || !k.hasAllOf(d) || !hasRoom(d) {
		return kind{}, api.ErrArg
	}
	return k, api.OK
}

// hasAllOf asks whether what the kind hasn't is zero.
func (k kind) hasAllOf(d Deed) bool {
	return (k.hasIsDir || !d.IsDir) &&
		(k.hasTo || d.To == 0 && d.As == "") &&
		(k.hasShort || d.Short == 0)
}

// hasRoom asks of what the kind hasn't, too: nought has room everywhere.
func hasRoom(d Deed) bool {
	return len(d.Name) <= api.MaxRaw && len(d.As) <= api.MaxRaw &&
		d.Dir >= 0 && d.Dir <= mostNode &&
		d.To >= 0 && d.To <= mostNode &&
		d.Short >= 0 && d.Short <= mostShort
}
