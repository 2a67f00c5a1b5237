package store

import "toponym/api"

// attempt is what may be tried again, once room was made for it: a try that
// finds none has changed nothing.
type attempt struct {
	try      func() api.Errno
	makeRoom func() api.Errno
}

// run ends, as the second try is the last one.
func (a attempt) run() api.Errno {
	err := a.try()
	if err != api.ErrFull {
		return err
	}
	if err := a.makeRoom(); err != api.OK {
		return err
	}
	return a.try()
}
