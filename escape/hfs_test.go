package escape_test

import (
	"strings"
	"testing"

	"toponym/api"
)

// hfs is a name on a disk of HFS, and how it is presented.
type hfs struct {
	raw  string
	name string
}

func expectHFS(t *testing.T, l []hfs) {
	t.Helper()
	for _, s := range l {
		expectShown(t, api.HFS, s.raw, s.name)
	}
}

// P4.1: the characters of regular names are put together.
func TestRegular(t *testing.T) {
	expectHFS(t, []hfs{
		{"e\u0301", "\u00e9"},
		{"cafe\u0301", "caf\u00e9"},
		{"e\u0301e\u0301 a\u030a", "\u00e9\u00e9 \u00e5"},
		{"e\u0305", "e\u0305"},
		{"\u0305", "\u0305"},
		{"e\u0305\u0301", "e\u0305\u0301"},
		{"x\u0301", "x\u0301"},
		{"\u0153\u0301", "\u0153\u0301"},
		{"\U0001f600\u0301", "\U0001f600\u0301"},
		{" \u0301", " \u0301"},
		{".\u0301", ".\u0301"},
		{"..\u0301", "..\u0301"},
		{"e\u0301.", "\u00e9%2e"},
		{"e\u0301 ", "\u00e9%20"},
	})
}

// P4.1: marks of both classes are put to what is ahead of them.
func TestRegularMarks(t *testing.T) {
	many := strings.Repeat("\u0301", 127)
	below := strings.Repeat("\u0327", 125)
	expectHFS(t, []hfs{
		{"c\u0327\u0301", "\u00e7\u0301"},
		{"a\u0327\u0301", "\u00e1\u0327"},
		{"a\u0328\u0301", "\u0105\u0301"},
		{"a\u0327\u0328\u0301\u0302", "\u00e1\u0327\u0328\u0302"},
		{"a\u0303\u0301", "\u00e3\u0301"},
		{"e\u0303\u0301", "e\u0303\u0301"},
		{"a" + many, "\u00e1" + many[2:]},
		{"x" + many, "x" + many},
		{"a" + below + "\u0301\u0302", "\u00e1" + below + "\u0302"},
	})
}

// P4.1: Hangul's syllables are put together.
func TestRegularHangul(t *testing.T) {
	expectHFS(t, []hfs{
		{"\u1100\u1161", "\uac00"},
		{"\u1100\u1161\u11a8", "\uac01"},
		{"\u1100", "\u1100"},
		{"\u1161", "\u1161"},
		{"\u11a8", "\u11a8"},
		{"\u1100\u1100\u1161\u1161", "\u1100\uac00\u1161"},
		{"\u1112\u1175\u11c2\u11c2", "\ud7a3\u11c2"},
		{"\u1100\u1161:\u11a8", "\uac00%3a\u11a8"},
		{"\u1100:\u1161", "\u1100%3a\u1161"},
		{"\u1100\u0301\u1161", "\u1100\u0301\u1161"},
		{"\u1100\u1161\u0301", "\uac00\u0301"},
	})
}

// P4.1: a mark that is first, or behind an escaped piece, is escaped too, and
// so are those behind it.
func TestEscapedMarks(t *testing.T) {
	expectHFS(t, []hfs{
		{"\u0301", "%cc%81"},
		{"\u0301e", "%cc%81e"},
		{"\u0327", "%cc%a7"},
		{"\u0327\u0301", "%cc%a7%cc%81"},
		{"\u0327\u0327\u0301\u0301e\u0301", "%cc%a7%cc%a7%cc%81%cc%81\u00e9"},
		{"\u0301\u0305\u0301", "%cc%81\u0305\u0301"},
		{":\u0301", "%3a%cc%81"},
		{":\u0301\u0302", "%3a%cc%81%cc%82"},
		{"%\u0327\u0301e\u0301", "%25%cc%a7%cc%81\u00e9"},
		{"a:\u0301", "a%3a%cc%81"},
		{"\x00\u0301", "%00%cc%81"},
		{":\u0305", "%3a\u0305"},
		{":\u0305\u0301", "%3a\u0305\u0301"},
		{"a\u0301:", "\u00e1%3a"},
		{"a\u0301:a\u0301", "\u00e1%3a\u00e1"},
		{"a\u0301:\u0301a\u0301", "\u00e1%3a%cc%81\u00e1"},
		{"\u0301.", "%cc%81%2e"},
		{"\u0301..", "%cc%81.%2e"},
		{"\u0301.\u0301", "%cc%81.\u0301"},
	})
}

// P4.1: of names that aren't regular each byte from 80 on is escaped, and the
// others are as in any encoding.
func TestIrregular(t *testing.T) {
	expectHFS(t, []hfs{
		{"\u00e9", "%c3%a9"},
		{"a\u00e9", "a%c3%a9"},
		{"e\u0301\u00e9", "e%cc%81%c3%a9"},
		{"e\u0301\xff", "e%cc%81%ff"},
		{"\u0153\xff", "%c5%93%ff"},
		{"\u0153\u00e9", "%c5%93%c3%a9"},
		{"\xc3", "%c3"},
		{"\u0301\u0327", "%cc%81%cc%a7"},
		{"a\u0301\u0327", "a%cc%81%cc%a7"},
		{"a\u0301\u0305\u0327", "\u00e1\u0305\u0327"},
		{"\uac00", "%ea%b0%80"},
		{"\uac01", "%ea%b0%81"},
		{"\uac00\u11a8", "%ea%b0%80%e1%86%a8"},
		{"\u1e09", "\u1e09"},
		{"\u00e9:", "%c3%a9%3a"},
		{":\u00e9%41", "%3a%c3%a9%2541"},
		{"\u00e9.", "%c3%a9%2e"},
		{".\u00e9", ".%c3%a9"},
		{" .\u00e9 ", " .%c3%a9%20"},
		{"\x7f\xff", "%7f%ff"},
		{"\u0080\xff~", "%c2%80%ff~"},
		{"\u0080~", "\u0080~"},
	})
}

// P4.1, P4.2: what isn't put together as far as can be is presented of no name
// there.
func TestRestoreNotTogether(t *testing.T) {
	for _, name := range []string{
		"e\u0301", "cafe\u0301", "c\u0327\u0301", "c\u0301\u0327", "\u0107\u0327", "a\u0327\u0301", "a\u0301\u0327",
		"\u1100\u1161", "\u1100\u1161\u11a8", "\uac00\u11a8", "\u00e1\u0302\u0327",
		"\u0301", "\u0301e", "%3a\u0301", "%cc%81\u0301", "\u0327\u0301", "%25\u0327", "\u00e9%3a\u0301",
		"e%cc%81", "\u00e9%cc%81", "e\u0301%3a",
	} {
		expectNone(t, api.HFS, name)
	}
	expectRestore(t, api.HFS, "\u00e9", "e\u0301")
	expectRestore(t, api.HFS, "\u00e7\u0301", "c\u0327\u0301")
	expectRestore(t, api.HFS, "\u00e1\u0327", "a\u0327\u0301")
	expectRestore(t, api.HFS, "\u00e1\u0327%3a\u00e7", "a\u0327\u0301:c\u0327")
	expectRestore(t, api.HFS, "\uac01", "\u1100\u1161\u11a8")
}

// P4.1: a name is restored up to MaxRaw bytes of what it is taken apart into.
func TestRestoreApartLong(t *testing.T) {
	expectRestore(t, api.HFS, strings.Repeat("\u00e9", 85), strings.Repeat("e\u0301", 85))
	expectNone(t, api.HFS, strings.Repeat("\u00e9", 86))
	expectNone(t, api.HFS, strings.Repeat("\u00e9", 85)+"e")
	expectRestore(t, api.HFS, strings.Repeat("\uac01", 28), strings.Repeat("\u1100\u1161\u11a8", 28))
	expectNone(t, api.HFS, strings.Repeat("\uac01", 29))
}
