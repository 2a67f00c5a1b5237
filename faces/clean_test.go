package faces_test

import (
	"slices"
	"testing"

	"toponym/api"
	"toponym/faces"
)

// P14.2: lists of none, of one and of some that fit, with a face of its own
// each, are clean, in whatever order.
func TestClean(t *testing.T) {
	for enc := range encodings {
		expectClean(t, enc, nil, true)
		expectClean(t, enc, []api.Entry{}, true)
		expectClean(t, enc, rowOf("a"), true)
		expectClean(t, enc, rowOf(""), true)
		expectClean(t, enc, rowOf("/"), true)
		expectClean(t, enc, rowOf("b", "a", "c.", "c", "", ".", "\xff", letters(255), stars(85)), true)
		expectClean(t, enc, []api.Entry{named(stars(90), 1)}, true)
		expectClean(t, enc, []api.Entry{named(stars(90), 1000000)}, true)
		expectClean(t, enc, []api.Entry{named(stars(90), -1)}, true)
		expectClean(t, enc, []api.Entry{named("b", 0), named(stars(91), 1), named("a", 0), named(stars(90), 1), named(stars(86), 4)}, true)
	}
}

// P14.2: one that doesn't fit, in whatever place, and for whichever of both
// reasons, isn't clean.
func TestCleanFits(t *testing.T) {
	for enc := range encodings {
		for _, wrong := range []api.Entry{named("x", 1), named("", 1), named(letters(255), 2), named("x", -1), named("x", 1000001), named(stars(86), 0), named(letters(256), 0), named(stars(85)+"a", 0)} {
			expectClean(t, enc, []api.Entry{wrong}, false)
			for at := range 4 {
				l := []api.Entry{named("a", 0), named(stars(90), 1), named("b", 0)}
				expectClean(t, enc, l, true)
				expectClean(t, enc, slices.Insert(l, at, wrong), false)
			}
		}
	}
	e := named("\x80\x81\x82"+stars(83), 0)
	expectClean(t, api.Latin1, []api.Entry{e}, true)
	expectClean(t, api.ASCII, []api.Entry{e}, false)
	e.Short = 1
	expectClean(t, api.Latin1, []api.Entry{e}, false)
	expectClean(t, api.ASCII, []api.Entry{e}, true)
}

// P14.2: two entries with one face, side by side and not, aren't clean: of one
// name twice, and of two names of one hash and one Short.
func TestCleanTwice(t *testing.T) {
	long := aimed(hashed(stars(90))).many(3)
	for enc := range encodings {
		for _, two := range [][]api.Entry{
			{named("x", 0), named("x", 0)},
			{named("", 0), named("", 0)},
			{named(".", 0), named(".", 0)},
			{named(stars(85), 0), named(stars(85), 0)},
			{named(stars(90), 1), named(stars(90), 1)},
			{named(stars(90), 3), named(long[0], 3)},
			{named(long[1], 1), named(long[2], 1)},
			{named(long[1], 1000000), named(stars(90), 1000000)},
			{named(stars(90), -1), named(stars(91), -2)},
			{named(stars(90), 1000001), named(stars(91), 1000002)},
			{named(stars(90), -1), named("", 0)},
		} {
			two[1].Node, two[1].Dir, two[1].Cookie = 8, false, 10
			expectClean(t, enc, two[:1], true)
			expectClean(t, enc, two[1:], true)
			expectClean(t, enc, two, false)
			expectClean(t, enc, []api.Entry{two[0], named("a", 0), two[1]}, false)
			expectClean(t, enc, []api.Entry{named("a", 0), two[1], named("z", 0), two[0]}, false)
			expectClean(t, enc, []api.Entry{two[0], two[1], named("a", 0), named(stars(100), 1)}, false)
		}
	}
}

// P14.2: of one hash, two Shorts are two faces; of two hashes, one Short is.
func TestCleanShorts(t *testing.T) {
	long := aimed(hashed(stars(90))).many(3)
	for enc := range encodings {
		expectClean(t, enc, []api.Entry{named(long[0], 1), named(long[1], 2), named(stars(90), 3), named(long[2], 1000000)}, true)
		expectClean(t, enc, []api.Entry{named(long[0], 2), named(long[1], 1), named(long[2], 2)}, false)
		expectClean(t, enc, []api.Entry{named(stars(90), 1), named(stars(90), 2)}, true)
		expectClean(t, enc, []api.Entry{named(stars(90), 1), named(stars(91), 1), named(stars(92), 1)}, true)
	}
}

// P14.2: a name that reads like another one's short name has another face, as
// has one that reads like another one's escapes.
func TestCleanLikeShort(t *testing.T) {
	for enc := range encodings {
		like := wantedShort(stars(90), 1)
		expectClean(t, enc, []api.Entry{named(stars(90), 1), named(like, 0)}, true)
		expectClean(t, enc, []api.Entry{named(like, 0), named("%25"+like[1:], 0), named("%2525"+like[1:], 0), named(stars(90), 1)}, true)
		expectClean(t, enc, rowOf(".", "%2e", "%252e", "*", "%2a", "%", "%25", "%~", "%~e40c292c-1", "a"), true)
		expectClean(t, enc, []api.Entry{named(like, 0), named(stars(90), 1), named(like, 0)}, false)
	}
	expectClean(t, api.HFS, rowOf("e\u0301", "\u00e9", "%c3%a9", "\xc3", "e"), true)
	expectClean(t, api.Latin1, rowOf("\xe9", "%e9", "\xc3\xa9", "e"), true)
	expectClean(t, api.Kana, rowOf("\x83\x41", "\x83", "\xb1", "%83A"), true)
}

// P14.2: each one of many counts: a list of many that is clean isn't any more,
// where one comes twice, or gets another one's Short.
func TestCleanMany(t *testing.T) {
	long := aimed(hashed("a")).many(40)
	for enc := range encodings {
		var l []api.Entry
		for i, name := range long {
			l = append(l, named(name, i+1), named(stars(86+i), 1), named(letters(i), 0))
		}
		expectClean(t, enc, l, true)
		for i := range l {
			expectClean(t, enc, append(slices.Clone(l), l[i]), false)
			expectClean(t, enc, slices.Insert(slices.Clone(l), 0, l[i]), false)
			other := slices.Clone(l)
			if i%3 == 0 {
				other[i].Short = len(long) + 1
				expectClean(t, enc, other, true)
				other[i].Short = (i/3+7)%len(long) + 1
			} else {
				other[i].Short = 1 - other[i].Short
			}
			expectClean(t, enc, other, false)
		}
	}
}

// P14.2, P14.1: where a list is clean, each entry is found by its face.
func TestCleanFound(t *testing.T) {
	long := aimed(hashed("a")).many(20)
	for enc := range encodings {
		l := rowOf("a", "b.", "\xff", "")
		for i, name := range long {
			l = append(l, named(name, len(long)-i))
		}
		expectClean(t, enc, l, true)
		for i, name := range faces.Names(enc, l) {
			expectFound(t, enc, l, name, l[i])
		}
	}
}
