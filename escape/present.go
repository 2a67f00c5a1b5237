package escape

import (
	"strings"

	"toponym/charset"
	"toponym/compose"
	"toponym/utf"
)

const digits = "0123456789abcdef"

// piece is one of a name's, with what its being escaped may hang on.
type piece struct {
	char  rune
	bytes string
	last  bool
}

// each hands on the pieces from the left: whether a mark is escaped hangs on
// what became of the piece ahead of it.
func each(pieces []charset.Piece, raw string, do func(piece)) {
	at := 0
	for _, p := range pieces {
		end := at + p.Size
		do(piece{char: p.Rune, bytes: raw[at:end], last: end == len(raw)})
		at = end
	}
}

// hidden tells whether a piece is escaped in names of every encoding.
func (p piece) hidden() bool {
	if p.last && (p.char == '.' || p.char == ' ') {
		return true
	}
	return p.char < 0 || Reserved(p.char)
}

// regular asks for stable characters, as others couldn't be told from those
// that they are taken apart into, once these are put together.
func regular(pieces []charset.Piece) bool {
	chars := make([]rune, len(pieces))
	for i, p := range pieces {
		if p.Rune < 0 {
			return false
		}
		chars[i] = p.Rune
	}
	return compose.Stable(chars)
}

// writer gathers a name as it is presented. What waits are the characters
// behind the last escaped piece of a regular name: they are put together once
// all of them are there.
type writer struct {
	text    strings.Builder
	waiting []rune
}

func (w *writer) take(p piece) {
	if p.hidden() {
		w.escape(p.bytes)
		return
	}
	w.text.WriteString(utf.Bytes(p.char))
}

// takeRegular knows a mark that is first, or behind an escaped piece, by there
// being nothing that waits.
func (w *writer) takeRegular(p piece) {
	bare := len(w.waiting) == 0 && compose.Class(p.char) != 0
	if bare || p.hidden() {
		w.putTogether()
		w.escape(p.bytes)
		return
	}
	w.waiting = append(w.waiting, p.char)
}

// takeIrregular leaves no character above ASCII, so that no irregular name is
// presented as a regular one is.
func (w *writer) takeIrregular(p piece) {
	if p.bytes[0] >= 0x80 {
		w.escape(p.bytes)
		return
	}
	w.take(p)
}

func (w *writer) escape(bytes string) {
	for at := range len(bytes) {
		b := bytes[at]
		w.text.WriteByte('%')
		w.text.WriteByte(digits[b>>4])
		w.text.WriteByte(digits[b&15])
	}
}

func (w *writer) putTogether() {
	w.text.WriteString(utf.Join(compose.Together(w.waiting)...))
	w.waiting = w.waiting[:0]
}

func (w *writer) end() string {
	w.putTogether()
	return w.text.String()
}
