package deed

import "strings"

// How many bytes a number has.
const (
	kindBytes  = 1
	nodeBytes  = 2
	countBytes = 1
	flagBytes  = 1
	shortBytes = 4
)

// writer asks nothing: what has no room in its bytes isn't handed to it.
type writer struct {
	text strings.Builder
}

func (w *writer) number(n, size int) {
	for left := size - 1; left >= 0; left-- {
		w.text.WriteByte(byte(n >> (8 * left)))
	}
}

func (w *writer) name(s string) {
	w.number(len(s), countBytes)
	w.text.WriteString(s)
}

func (w *writer) flag(is bool) {
	n := 0
	if is {
		n = 1
	}
	w.number(n, flagBytes)
}

// reader goes on behind the end, where it reads less than it was asked for: the
// bytes that would be written of that are others than those that were there.
type reader struct {
	rest string
}

func (r *reader) take(size int) string {
	size = min(size, len(r.rest))
	taken := r.rest[:size]
	r.rest = r.rest[size:]
	return taken
}

func (r *reader) number(size int) int {
	n := 0
	taken := r.take(size)
	for at := range len(taken) {
		n = n<<8 | int(taken[at])
	}
	return n
}

// name is cut from bytes that needn't be kept for it.
func (r *reader) name() string {
	return strings.Clone(r.take(r.number(countBytes)))
}

// flag reads but one of the bytes as true, and all others as false, of which
// one is written.
func (r *reader) flag() bool {
	return r.number(flagBytes) == 1
}
