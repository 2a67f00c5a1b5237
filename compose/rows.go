package compose

// The marks that have rows, and the characters that the rows make, lie within
// these; most characters of names lie outside, and no row need be asked.
const (
	firstMark = 0x300
	lastMark  = 0x328
	firstMade = 0xc0
	lastMade  = 0x17e
)

// row tells letters, and what each makes with the row's mark, at the same
// place. Places are counted by characters, as the two texts differ in width.
type row struct {
	letters, made string
}

func (w row) makes(letter rune) (rune, bool) {
	return across(w.letters, letter, w.made)
}

func (w row) comesOf(made rune) (rune, bool) {
	return across(w.made, made, w.letters)
}

// across answers what stands in another text where a character stands in one.
func across(text string, r rune, other string) (rune, bool) {
	place := 0
	for _, c := range text {
		if c == r {
			return runeAt(other, place), true
		}
		place++
	}
	return 0, false
}

func runeAt(text string, place int) rune {
	for _, r := range text {
		if place == 0 {
			return r
		}
		place--
	}
	return 0
}

// rowOf answers an empty row for what is no mark.
func rowOf(mark rune) row {
	switch mark {
	case 0x300:
		return row{"AEIOUaeiou", "ÀÈÌÒÙàèìòù"}
	case 0x301:
		return row{"AEIOUYaeiouyCcLlNnRrSsZz", "ÁÉÍÓÚÝáéíóúýĆćĹĺŃńŔŕŚśŹź"}
	case 0x302:
		return row{"AEIOUaeiouCcGgHhJjSsWwYy", "ÂÊÎÔÛâêîôûĈĉĜĝĤĥĴĵŜŝŴŵŶŷ"}
	case 0x303:
		return row{"ANOanoIiUu", "ÃÑÕãñõĨĩŨũ"}
	case 0x304:
		return row{"AaEeIiOoUu", "ĀāĒēĪīŌōŪū"}
	case 0x306:
		return row{"AaEeGgIiOoUu", "ĂăĔĕĞğĬĭŎŏŬŭ"}
	case 0x307:
		return row{"CcEeGgIZz", "ĊċĖėĠġİŻż"}
	case 0x308:
		return row{"AEIOUaeiouyY", "ÄËÏÖÜäëïöüÿŸ"}
	case 0x30a:
		return row{"AaUu", "ÅåŮů"}
	case 0x30b:
		return row{"OoUu", "ŐőŰű"}
	case 0x30c:
		return row{"CcDdEeNnRrSsTtZz", "ČčĎďĚěŇňŘřŠšŤťŽž"}
	case 0x327:
		return row{"CcGgKkLlNnRrSsTt", "ÇçĢģĶķĻļŅņŖŗŞşŢţ"}
	case 0x328:
		return row{"AaEeIiUu", "ĄąĘęĮįŲų"}
	}
	return row{}
}
