package charset

import "toponym/api"

// row tells the characters of bytes from first on, one behind the other.
type row struct {
	first int
	text  string
}

// gap stands in a row's text for a byte that has no character. It can stand
// for nothing else there: it is ASCII's, and no row has a character of ASCII's.
const gap = '.'

// The first bytes of characters of two bytes.
const (
	firstLead = 0x82
	lastLead  = 0x84
)

// at answers the character of a byte. Characters are counted from the row's
// beginning, since in a text they aren't all of one width.
func (w row) at(b byte) (rune, bool) {
	ahead := int(b) - w.first
	for _, r := range w.text {
		if ahead == 0 && r != gap {
			return r, true
		}
		ahead--
	}
	return 0, false
}

// find answers the byte of a character; a gap's sign is none.
func (w row) find(r rune) (byte, bool) {
	b := w.first
	for _, c := range w.text {
		if c == r && c != gap {
			return byte(b), true
		}
		b++
	}
	return 0, false
}

// single answers the row of an encoding's characters of one byte. Bytes below
// its first are the characters of their numbers, so that Latin1 needs no row.
func single(enc int) row {
	switch enc {
	case api.Latin1:
		return row{first: 0x100}
	case api.Latin2:
		return row{first: 0xa0, text: latin2}
	case api.Latin9:
		return row{first: 0xa0, text: latin9}
	case api.CP437:
		return row{first: 0x80, text: cp437}
	case api.CP850:
		return row{first: 0x80, text: cp850}
	case api.Kana:
		return row{first: 0x80, text: kana}
	}
	return row{first: 0x80}
}

// double answers the row of an encoding's second bytes behind a first one:
// one without a text, where no character of two bytes begins so.
func double(enc int, lead byte) row {
	if enc != api.Kana {
		return row{}
	}
	switch lead {
	case 0x82:
		return row{first: 0x40, text: kana82}
	case 0x83:
		return row{first: 0x40, text: kana83}
	case 0x84:
		return row{first: 0x40, text: kana84}
	}
	return row{}
}

// The rows stand in lines of sixteen bytes, as the chapter's do. Characters
// that aren't seen are written as their numbers.

const latin2 = "" +
	"\u00a0Ą˘Ł¤ĽŚ§¨ŠŞŤŹ\u00adŽŻ" +
	"°ą˛ł´ľśˇ¸šşťź˝žż" +
	"ŔÁÂĂÄĹĆÇČÉĘËĚÍÎĎ" +
	"ĐŃŇÓÔŐÖ×ŘŮÚŰÜÝŢß" +
	"ŕáâăäĺćçčéęëěíîď" +
	"đńňóôőö÷řůúűüýţ˙"

const latin9 = "" +
	"\u00a0¡¢£€¥Š§š©ª«¬\u00ad®¯" +
	"°±²³Žµ¶·ž¹º»ŒœŸ¿" +
	"ÀÁÂÃÄÅÆÇÈÉÊËÌÍÎÏ" +
	"ÐÑÒÓÔÕÖ×ØÙÚÛÜÝÞß" +
	"àáâãäåæçèéêëìíîï" +
	"ðñòóôõö÷øùúûüýþÿ"

const cp437 = "" +
	"ÇüéâäàåçêëèïîìÄÅ" +
	"ÉæÆôöòûùÿÖÜ¢£¥₧ƒ" +
	"áíóúñÑªº¿⌐¬½¼¡«»" +
	"░▒▓│┤╡╢╖╕╣║╗╝╜╛┐" +
	"└┴┬├─┼╞╟╚╔╩╦╠═╬╧" +
	"╨╤╥╙╘╒╓╫╪┘┌█▄▌▐▀" +
	"αßΓπΣσµτΦΘΩδ∞φε∩" +
	"≡±≥≤⌠⌡÷≈°∙·√ⁿ²■\u00a0"

const cp850 = "" +
	"ÇüéâäàåçêëèïîìÄÅ" +
	"ÉæÆôöòûùÿÖÜø£Ø×ƒ" +
	"áíóúñÑªº¿®¬½¼¡«»" +
	"░▒▓│┤ÁÂÀ©╣║╗╝¢¥┐" +
	"└┴┬├─┼ãÃ╚╔╩╦╠═╬¤" +
	"ðÐÊËÈıÍÎÏ┘┌█▄¦Ì▀" +
	"ÓßÔÒõÕµþÞÚÛÙýÝ¯´" +
	"\u00ad±‗¾¶§÷¸°¨·¹³²■\u00a0"

const kana = "" +
	"................" +
	"................" +
	".｡｢｣､･ｦｧｨｩｪｫｬｭｮｯ" +
	"ｰｱｲｳｴｵｶｷｸｹｺｻｼｽｾｿ" +
	"ﾀﾁﾂﾃﾄﾅﾆﾇﾈﾉﾊﾋﾌﾍﾎﾏ" +
	"ﾐﾑﾒﾓﾔﾕﾖﾗﾘﾙﾚﾛﾜﾝﾞﾟ"

const kana82 = "" +
	"...............０" +
	"１２３４５６７８９......." +
	"ＡＢＣＤＥＦＧＨＩＪＫＬＭＮＯＰ" +
	"ＱＲＳＴＵＶＷＸＹＺ......" +
	".ａｂｃｄｅｆｇｈｉｊｋｌｍｎｏ" +
	"ｐｑｒｓｔｕｖｗｘｙｚ....ぁ" +
	"あぃいぅうぇえぉおかがきぎくぐけ" +
	"げこごさざしじすずせぜそぞただち" +
	"ぢっつづてでとどなにぬねのはばぱ" +
	"ひびぴふぶぷへべぺほぼぽまみむめ" +
	"もゃやゅゆょよらりるれろゎわゐゑ" +
	"をん"

const kana83 = "" +
	"ァアィイゥウェエォオカガキギクグ" +
	"ケゲコゴサザシジスズセゼソゾタダ" +
	"チヂッツヅテデトドナニヌネノハバ" +
	"パヒビピフブプヘベペホボポマミ." +
	"ムメモャヤュユョヨラリルレロヮワ" +
	"ヰヱヲンヴヵヶ........Α" +
	"ΒΓΔΕΖΗΘΙΚΛΜΝΞΟΠΡ" +
	"ΣΤΥΦΧΨΩ........α" +
	"βγδεζηθικλμνξοπρ" +
	"στυφχψω"

const kana84 = "" +
	"АБВГДЕЁЖЗИЙКЛМНО" +
	"ПРСТУФХЦЧШЩЪЫЬЭЮ" +
	"Я..............." +
	"абвгдеёжзийклмн." +
	"опрстуфхцчшщъыьэ" +
	"юя"
