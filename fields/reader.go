package fields

import "strings"

// Reader goes on behind the end, where it reads less than it was asked for: the
// bytes that would be written of that are others than those that were there.
type Reader struct {
	rest string
	past bool
}

// NewReader is at the first byte.
func NewReader(b string) Reader {
	return Reader{rest: b}
}

// Past tells that more was asked for than there was.
func (r *Reader) Past() bool {
	return r.past
}

// Number of eight bytes is below 0 where its topmost bit is set.
func (r *Reader) Number(size int) int64 {
	n := int64(0)
	taken := r.take(size)
	for at := range len(taken) {
		n = n<<8 | int64(taken[at])
	}
	return n
}

// Name is cut from bytes that needn't be kept for it.
func (r *Reader) Name() string {
	return strings.Clone(r.take(int(r.Number(lengthBytes))))
}

// Flag reads but one of the bytes as true, and all others as false, of which
// one is written.
func (r *Reader) Flag() bool {
	return r.Number(flagBytes) == 1
}

func (r *Reader) take(size int) string {
	if size > len(r.rest) {
		size, r.past = len(r.rest), true
	}
	taken := r.rest[:size]
	r.rest = r.rest[size:]
	return taken
}
