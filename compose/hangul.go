package compose

// Where the parts of Hangul's syllables, and the syllables, begin, and how
// many there are of each.
const (
	leading, leadingCount   = 0x1100, 19
	vowel, vowelCount       = 0x1161, 21
	trailing, trailingCount = 0x11a8, 27
	syllable, syllableCount = 0xac00, leadingCount * perLeading
)

// How many syllables there are of one vowel behind a leading one (with each
// trailing one, and without), and of one leading one.
const (
	perVowel   = trailingCount + 1
	perLeading = vowelCount * perVowel
)

func within(r, first, count rune) bool {
	return r >= first && r < first+count
}

// isOpen tells whether a trailing one may follow.
func isOpen(r rune) bool {
	return within(r, syllable, syllableCount) && (r-syllable)%perVowel == 0
}

func joinHangul(a, b rune) (rune, bool) {
	switch {
	case within(a, leading, leadingCount) && within(b, vowel, vowelCount):
		return syllable + perLeading*(a-leading) + perVowel*(b-vowel), true
	case isOpen(a) && within(b, trailing, trailingCount):
		return a + b - trailing + 1, true
	}
	return 0, false
}

func splitHangul(r rune) (rune, rune, bool) {
	if !within(r, syllable, syllableCount) {
		return 0, 0, false
	}
	number := r - syllable
	if behind := number % perVowel; behind != 0 {
		return r - behind, trailing + behind - 1, true
	}
	return leading + number/perLeading, vowel + number%perLeading/perVowel, true
}
