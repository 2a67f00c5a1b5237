// Package fields has what deeds and images are both made of, as bytes: numbers,
// the most significant byte first, names behind their lengths, and flags.
package fields

import "strings"

// How many bytes a name's length has, and a flag.
const (
	lengthBytes = 1
	flagBytes   = 1
)

// Writer asks nothing: what has no room in its bytes isn't handed to it.
type Writer struct {
	text strings.Builder
}

// Number leaves it to the caller how many bytes there are, as no number tells.
func (w *Writer) Number(n int64, size int) {
	for left := size - 1; left >= 0; left-- {
		w.text.WriteByte(byte(n >> (8 * left)))
	}
}

// Name is of whatever bytes.
func (w *Writer) Name(s string) {
	w.Number(int64(len(s)), lengthBytes)
	w.text.WriteString(s)
}

// Flag is the number 0 or 1.
func (w *Writer) Flag(is bool) {
	n := int64(0)
	if is {
		n = 1
	}
	w.Number(n, flagBytes)
}

// Text leaves the writer as it is: more may be written behind it.
func (w *Writer) Text() string {
	return w.text.String()
}
