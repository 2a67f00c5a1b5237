package escape

import (
	"strings"

	"toponym/api"
	"toponym/charset"
	"toponym/compose"
	"toponym/utf"
)

// read answers the only bytes that may be presented as name; whether they are,
// Restore asks.
func read(enc int, name string) (string, bool) {
	chars, ok := utf.All(name)
	if !ok {
		return "", false
	}
	var raw strings.Builder
	for len(chars) > 0 {
		plain, behind := untilEscape(chars)
		bytes, ok := encode(enc, plain)
		if !ok {
			return "", false
		}
		raw.WriteString(bytes)
		if len(behind) == 0 {
			break
		}
		b, ok := unescape(behind)
		if !ok {
			return "", false
		}
		raw.WriteByte(b)
		chars = behind[escapeSize:]
	}
	return raw.String(), true
}

// untilEscape parts the characters where the first escape begins.
func untilEscape(chars []rune) ([]rune, []rune) {
	for at, r := range chars {
		if r == '%' {
			return chars[:at], chars[at:]
		}
	}
	return chars, nil
}

// encode takes apart only what stands between two escapes, as only that was
// put together.
func encode(enc int, chars []rune) (string, bool) {
	if enc == api.HFS {
		chars = compose.Apart(chars)
	}
	var raw strings.Builder
	for _, r := range chars {
		b, ok := charset.Encode(enc, r)
		if !ok {
			return "", false
		}
		raw.WriteString(b)
	}
	return raw.String(), true
}

// An escape is a % and two digits.
const escapeSize = 3

func unescape(chars []rune) (byte, bool) {
	if len(chars) < escapeSize {
		return 0, false
	}
	high := strings.IndexRune(digits, chars[1])
	low := strings.IndexRune(digits, chars[2])
	if high < 0 || low < 0 {
		return 0, false
	}
	return byte(high<<4 | low), true
}
