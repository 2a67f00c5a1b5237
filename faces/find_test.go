package faces_test

import (
	"strings"
	"testing"

	"toponym/api"
	"toponym/faces"
)

// P14.1: Find of a face that the first entry has, one in the middle, the last
// one, and none: the whole entry, and true, or a zero one, and false.
func TestFind(t *testing.T) {
	for enc := range encodings {
		l := rowOf("b", "a.", "c", "x*y", "d")
		for i, face := range []string{"b", "a%2e", "c", "x%2ay", "d"} {
			expectFound(t, enc, l, face, l[i])
			expectFound(t, enc, l[i:], face, l[i])
			expectFound(t, enc, l[:i+1], face, l[i])
			expectNotFound(t, enc, l[:i], face)
			expectNotFound(t, enc, l[i+1:], face)
		}
		for _, name := range []string{"", "e", "B", "bb", "a.", "a", "a%2E", "x*y", "%62", " b", "b ", "b\x00"} {
			expectNotFound(t, enc, l, name)
		}
		expectNotFound(t, enc, nil, "b")
		expectNotFound(t, enc, nil, "")
		expectNotFound(t, enc, []api.Entry{}, "b")
	}
}

// P14.1: where two entries, or more, have one face, it is the first one.
func TestFindFirst(t *testing.T) {
	for enc := range encodings {
		l := rowOf("a", "b.", "c", "b.", "b.", stars(90), "a", stars(90))
		l[5].Short, l[7].Short = 2, 2
		expectFound(t, enc, l, "a", l[0])
		expectFound(t, enc, l[1:], "a", l[6])
		expectFound(t, enc, l, "b%2e", l[1])
		expectFound(t, enc, l[2:], "b%2e", l[3])
		expectFound(t, enc, l[4:], "b%2e", l[4])
		expectFound(t, enc, l, wantedShort(stars(90), 2), l[5])
		expectFound(t, enc, l[6:], wantedShort(stars(90), 2), l[7])
	}
}

// P14.1: a name that is no text of UTF-8 is no face, but where it is presented
// so.
func TestFindNoText(t *testing.T) {
	for enc := range encodings {
		l := rowOf("caf\xe9", "\xff", "a\xc3", "a")
		for _, name := range []string{"caf\xe9", "\xff", "a\xc3", "a\xff", "\xc0\x80", "\xed\xa0\x80", "a\x80", "\xe2\x82"} {
			expectNotFound(t, enc, l, name)
		}
		for _, e := range l {
			expectFound(t, enc, l, faces.Of(enc, e), e)
		}
	}
	expectFound(t, api.Latin1, rowOf("a", "caf\xe9"), "caf\u00e9", rowOf("a", "caf\xe9")[1])
	expectFound(t, api.UTF8, rowOf("a", "caf\xe9"), "caf%e9", rowOf("a", "caf\xe9")[1])
	expectFound(t, api.HFS, rowOf("a", "e\u0301"), "\u00e9", rowOf("a", "e\u0301")[1])
	expectNotFound(t, api.HFS, rowOf("a", "e\u0301"), "e\u0301")
	expectNotFound(t, api.HFS, rowOf("a", "e\u0301"), "%c3%a9")
}

// P14.1: of a short name of another hash, or another number, there is none, nor
// of what is nearly one.
func TestFindShort(t *testing.T) {
	for enc := range encodings {
		l := append(rowOf("a", "b"), named(stars(90), 2), named(stars(91), 1), named(stars(90), 10), named("c", 3))
		expectFound(t, enc, l, wantedShort(stars(90), 2), l[2])
		expectFound(t, enc, l, wantedShort(stars(91), 1), l[3])
		expectFound(t, enc, l, wantedShort(stars(90), 10), l[4])
		expectFound(t, enc, l, wantedShort("c", 3), l[5])
		face := wantedShort(stars(90), 2)
		for _, name := range []string{
			wantedShort(stars(90), 1), wantedShort(stars(90), 3), wantedShort(stars(90), 20), wantedShort(stars(90), 100), wantedShort(stars(91), 2), wantedShort(stars(92), 1), wantedShort("c", 1), wantedShort("a", 1), wantedShort("a", 0),
			strings.ToUpper(face), face + " ", " " + face, face[:11], face[1:], "%25" + face[1:], face[:11] + "02", face[:11] + "+2",
			stars(90), strings.Repeat("%2a", 90), "c",
		} {
			expectNotFound(t, enc, l, name)
		}
	}
}

// P14.1: a name on a disk that reads like a short one has a face of its own.
func TestFindLikeShort(t *testing.T) {
	for enc := range encodings {
		like := wantedShort(stars(90), 1)
		l := rowOf(like, stars(90))
		l[1].Short = 1
		expectFound(t, enc, l, like, l[1])
		expectFound(t, enc, l, "%25"+like[1:], l[0])
		expectNotFound(t, enc, l[:1], like)
	}
}

// P14.1: entries that don't fit are found by their faces, too: by one that is
// too long, by a short name of what isn't long, and by no bytes, where there is
// no such name.
func TestFindNotFitting(t *testing.T) {
	for enc := range encodings {
		l := append(rowOf("a", stars(86), "b"), named("c", 1), named("", 0), named(stars(90), -1))
		expectFound(t, enc, l, strings.Repeat("%2a", 86), l[1])
		expectFound(t, enc, l, wantedShort("c", 1), l[3])
		expectFound(t, enc, l, "", l[4])
		expectFound(t, enc, l[5:], "", l[5])
		expectFound(t, enc, []api.Entry{named("a", 1000001)}, "", named("a", 1000001))
	}
}
