package image

import (
	"toponym/api"
	"toponym/fields"
)

type directory struct {
	node    int
	entries []api.Entry
}

// byNode keeps one of those that stand twice: what is written of that is less
// than what was read.
func byNode(l []directory) map[int][]api.Entry {
	dirs := map[int][]api.Entry{}
	for _, d := range l {
		dirs[d.node] = d.entries
	}
	return dirs
}

type writer struct {
	fields.Writer
}

func (w *writer) directory(d directory) {
	w.Number(int64(d.node), nodeBytes)
	w.Number(int64(len(d.entries)), countBytes)
	for _, e := range d.entries {
		w.entry(e)
	}
}

func (w *writer) entry(e api.Entry) {
	w.Name(e.Name)
	w.Number(int64(e.Node), nodeBytes)
	w.Flag(e.Dir)
	w.Number(e.Cookie, cookieBytes)
	w.Number(int64(e.Short), shortBytes)
}

type reader struct {
	fields.Reader
}

func newReader(b string) *reader {
	return &reader{fields.NewReader(b)}
}

func (r *reader) directory() directory {
	node := int(r.Number(nodeBytes))
	return directory{node: node, entries: several(r, r.entry)}
}

func (r *reader) entry() api.Entry {
	var e api.Entry
	e.Name = r.Name()
	e.Node = int(r.Number(nodeBytes))
	e.Dir = r.Flag()
	e.Cookie = r.Number(cookieBytes)
	e.Short = int(r.Number(shortBytes))
	return e
}

// several ends where the bytes do, however many are told to be there.
func several[T any](r *reader, read func() T) []T {
	var l []T
	for left := r.Number(countBytes); left > 0 && !r.Past(); left-- {
		l = append(l, read())
	}
	return l
}
