package fs

import (
	"toponym/api"
	"toponym/deed"
	"toponym/tree"
)

// plan answers the deed that a call asks for; what it answers beside an error
// isn't done.
type plan func(v view) (deed.Deed, api.Errno)

// change has what asks, and what does, so that their order is the same for all
// calls that do something.
type change struct {
	enc  int
	over func() bool
	tree func() *tree.Tree
	do   func(d deed.Deed) (int, api.Errno)
}

// by asks for power ahead of all else, also where the plan would go wrong.
func (c change) by(p plan) (int, api.Errno) {
	if c.over() {
		return 0, api.ErrLost
	}
	d, err := p(view{enc: c.enc, tree: c.tree()})
	if err != api.OK {
		return 0, err
	}
	return c.do(d)
}
