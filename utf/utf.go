// Package utf is layer 1: see shared/doc/01-utf.md.
package utf

import (
	"strings"
	"unicode/utf8"
)

// Next tells what is no character by a width of 0, as the character 0 has the
// width 1.
func Next(b string, at int) (rune, int) {
	if at < 0 || at >= len(b) {
		return 0, 0
	}
	r, width := utf8.DecodeRuneInString(b[at:])
	// U+FFFD, three bytes wide, is a character like any other; the library
	// answers it, one byte wide, also for bytes that are none's.
	if r == utf8.RuneError && width == 1 {
		return 0, 0
	}
	return r, width
}

// Bytes asks Is first, since a conversion makes U+FFFD of what is no character.
func Bytes(r rune) string {
	if !Is(r) {
		return ""
	}
	return string(r)
}

// All looks at the whole of b first, since a conversion makes U+FFFD of each
// byte that is no character's.
func All(b string) ([]rune, bool) {
	if !utf8.ValidString(b) {
		return nil, false
	}
	return []rune(b), true
}

// Join leaves out what is no character, as it has no bytes.
func Join(l ...rune) string {
	var joined strings.Builder
	for _, r := range l {
		joined.WriteString(Bytes(r))
	}
	return joined.String()
}

// Is leaves out the surrogates: they are halves of other encodings' characters.
func Is(r rune) bool {
	return utf8.ValidRune(r)
}
