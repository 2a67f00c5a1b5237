package fs_test

import (
	"math"
	"slices"
	"strconv"
	"strings"
	"testing"

	"toponym/api"
)

// asked are the three calls that ask, of one path.
func asked(path string) []call {
	return []call{lookup(path), raw(path), list(path, 0, api.MaxBatch)}
}

// P17.2: the root, files and directories, by all that asks, in each encoding.
func TestAsk(t *testing.T) {
	for enc := range encodings {
		k := small(t, 60, enc)
		k.expect(t, lookup("/"), answer{is: true})
		k.expectWrong(t, api.ErrArg, raw("/"))
		k.expectNames(t, "/", "a", "f", "e", face90)
		k.expectNode(t, "/a", 1, true, "a")
		k.expectNames(t, "/a", "b")
		k.expectNode(t, "/a/b", 2, true, "b")
		k.expectNames(t, "/a/b", "c")
		k.expectNode(t, "/a/b/c", 3, false, "c")
		k.expectNode(t, "/f", 4, false, "f")
		k.expectNode(t, "/e", 5, true, "e")
		k.expectNames(t, "/e")
		k.expectNode(t, "/"+face90, 6, false, stars(90))
		for _, file := range []string{"/f", "/a/b/c", "/" + face90} {
			k.expectWrong(t, api.ErrNotDir, list(file, 0, 1))
		}
	}
}

// pathless are texts that are no paths, by their errors.
func pathless() map[api.Errno][]string {
	return map[api.Errno][]string{
		api.ErrName: {"", "a", "a/b", "//", "/a/", "/a//b", "//a", "/.", "/..", "/a/..", "/./a", "/f/.", "/x/..", "\x00", ".", deep(17, ".."), deep(16, "a") + "/", letters(1024)},
		api.ErrLong: {letters(1025), "/" + letters(1024), deep(513, ".."), deep(17, "a"), "/f" + deep(16, "x"), deep(512, "x"), strings.Repeat("/", 1025)},
	}
}

// P17.2: what is no path, whatever else is wrong with it.
func TestAskNoPath(t *testing.T) {
	for enc := range encodings {
		k := small(t, 60, enc)
		for err, paths := range pathless() {
			for _, path := range paths {
				k.expectWrong(t, err, asked(path)...)
				k.expectWrong(t, err, list(path, -1, 1), list(path, 0, 0), list(path, math.MinInt64, math.MaxInt))
			}
		}
	}
}

// P17.2: paths that lead nowhere, and over files: what comes first on the way is
// told.
func TestAskNowhere(t *testing.T) {
	for enc := range encodings {
		k := small(t, 60, enc)
		for _, path := range []string{"/x", "/x/y", "/a/x", "/a/b/x/y", "/e/e", "/A", "/a ", "/%61", "/" + letters(255), "/" + letters(256), "/" + letters(1023), "/\xff", "/a/\x00", deep(16, "a"), "/" + stars(90), "/%~a99fd875-2", "/%~A99FD875-1", "/%~a99fd875-01", "/" + face90 + "0", "/e/" + face90} {
			k.expectWrong(t, api.ErrNone, asked(path)...)
			k.expectWrong(t, api.ErrNone, list(path, -1, 1), list(path, 0, 65))
		}
		for _, path := range []string{"/f/x", "/f/f", "/f/x/y", "/f" + deep(15, "x"), "/a/b/c/c", "/" + face90 + "/x", "/f/%61", "/f/" + letters(256)} {
			k.expectWrong(t, api.ErrNotDir, asked(path)...)
			k.expectWrong(t, api.ErrNotDir, list(path, -1, 1), list(path, 0, 65))
		}
	}
}

// P17.2: Raw asks of a last name only whether it is a face that is there.
func TestRawOfNoName(t *testing.T) {
	for enc := range encodings {
		k := small(t, 60, enc)
		for _, name := range []string{"a.", "%", "%zz", "*", "\xff", "\u0301", letters(256), letters(1000)} {
			k.expectWrong(t, api.ErrNone, raw("/"+name), lookup("/"+name))
		}
	}
}

// many has so many entries in /d, from the cookie 3 on, each other one a
// directory; the one that is linked ahead of /d has the cookie 1.
func many(t *testing.T, enc, count int) *disk {
	t.Helper()
	k := fresh(t, 600, enc)
	k.do(t, makes("/o", false), makes("/d", true))
	for i := range count {
		k.do(t, makes("/d/"+strconv.Itoa(i), i%2 == 0))
	}
	return k
}

// numbered are the names of many, from one to ahead of another one.
func numbered(from, to int) string {
	var names []string
	for i := from; i < to; i++ {
		names = append(names, strconv.Itoa(i))
	}
	return joined(names)
}

// P17.2: List's sizes, from 1 to MaxBatch.
func TestListSizes(t *testing.T) {
	k := many(t, api.ASCII, 130)
	for n := 1; n <= 64; n++ {
		k.expect(t, list("/d", 0, n), answer{names: numbered(0, n), next: int64(n) + 2})
		k.expect(t, list("/d", 100, n), answer{names: numbered(98, min(98+n, 130)), next: int64(min(100+n, 132))})
		k.expect(t, list("/", 0, n), answer{names: joined([]string{"o", "d"}[:min(n, 2)]), next: int64(min(n, 2))})
		k.expect(t, list("/d/0", 0, n), answer{})
	}
	for _, n := range []int{0, -1, 65, 66, 128, math.MinInt, math.MaxInt, math.MinInt32, 1 << 32, 1<<32 + 1} {
		k.expectWrong(t, api.ErrArg, list("/d", 0, n), list("/d/0", 0, n), list("/", 5, n), list("/", -1, n), list("/d", math.MinInt64, n))
	}
}

// P17.2: List's cursors: those of entries that are there, and whatever else
// isn't below 0.
func TestListCursors(t *testing.T) {
	k := many(t, api.Kana, 130)
	for at := range int64(140) {
		from := int(max(0, at-2))
		to := max(from, min(from+3, 130))
		next := at
		if from < to {
			next = int64(to) + 2
		}
		k.expect(t, list("/d", at, 3), answer{names: numbered(from, to), next: next})
		k.expect(t, list("/d/2", at, 3), answer{next: at})
	}
	for _, at := range []int64{133, 1 << 31, 1 << 32, 1<<32 + 5, math.MaxInt64} {
		k.expect(t, list("/d", at, 64), answer{next: at})
		k.expect(t, list("/", at, 1), answer{next: at})
	}
	for _, at := range []int64{-1, -2, -133, math.MinInt64, math.MinInt32, -1 << 32} {
		k.expectWrong(t, api.ErrCursor, list("/d", at, 1), list("/", at, 64), list("/d/2", at, 3))
	}
}

// shown is a name on a disk, and its face.
type shown struct {
	raw, face string
}

// shownIn are names of each kind in an encoding: plain ones, escaped ones, such
// as are put together, and long ones.
func shownIn(enc int) []shown {
	l := []shown{
		{"a b.c", "a b.c"}, {"a.", "a%2e"}, {"a ", "a%20"}, {"...", "..%2e"}, {"%61", "%2561"}, {"%", "%25"}, {"%~", "%25~"}, {`a"*:<>?\|`, "a%22%2a%3a%3c%3e%3f%5c%7c"}, {"\x01\x7f", "%01%7f"},
		{stars(85), strings.Repeat("%2a", 85)}, {stars(90), face90}, {letters(255), letters(255)},
	}
	switch enc {
	case api.ASCII:
		return append(l, shown{"caf\xe9", "caf%e9"}, shown{strings.Repeat("\x80", 86), "%~adcfbcdd-1"}, shown{"e\u0301", "e%cc%81"})
	case api.Latin1:
		return append(l, shown{"caf\xe9", "caf\u00e9"}, shown{"\x80\xff", "\u0080\u00ff"}, shown{"e\u0301", "e\u00cc\u0081"})
	case api.Latin2:
		return append(l, shown{"\xb1\xe6", "\u0105\u0107"}, shown{"\xff\xa0", "\u02d9\u00a0"})
	case api.Latin9:
		return append(l, shown{"\xa4\xbe", "\u20ac\u0178"}, shown{"\xe9", "\u00e9"})
	case api.CP437:
		return append(l, shown{"\xe9\x80", "\u0398\u00c7"}, shown{"\xb0\xff", "\u2591\u00a0"})
	case api.CP850:
		return append(l, shown{"\xd5\xe9", "\u0131\u00da"}, shown{"\xf0", "\u00ad"})
	case api.Kana:
		return append(l, shown{"\x83\x41\xb1", "\u30a2\uff71"}, shown{"\x83", "%83"}, shown{"\x82\x60\x82", "\uff21%82"}, shown{"\x84\x46", "\u0401"})
	case api.UTF8:
		return append(l, shown{"\u00e9", "\u00e9"}, shown{"e\u0301", "e\u0301"}, shown{"\u0301", "\u0301"}, shown{"\U0001f600\xff", "\U0001f600%ff"})
	}
	return append(l, shown{"e\u0301", "\u00e9"}, shown{"\u00e9", "%c3%a9"}, shown{"\u0301", "%cc%81"}, shown{":\u0301", "%3a%cc%81"}, shown{"\u1100\u1161\u11a8", "\uac01"}, shown{"\uac01", "%ea%b0%81"}, shown{"c\u0327\u0301", "\u00e7\u0301"}, shown{"\xff", "%ff"})
}

// planted has these names in /d, files and directories by turns.
func planted(t *testing.T, enc int, l []shown) *disk {
	t.Helper()
	k := fresh(t, 200, enc)
	k.do(t, makes("/d", true))
	for i, x := range l {
		k.expect(t, plants("/d", x.raw, i%2 == 0), answer{node: i + 2})
	}
	return k
}

// P17.2: what is listed are faces, by bits of each size, in each encoding; each
// of them leads to its entry.
func TestListFaces(t *testing.T) {
	for enc := range encodings {
		l := shownIn(enc)
		k := planted(t, enc, l)
		for n := 1; n <= len(l)+1; n++ {
			for from := 0; from < len(l); from += n {
				var want []string
				for _, x := range l[from:min(from+n, len(l))] {
					want = append(want, x.face)
				}
				at := int64(from) + 1
				k.expect(t, list("/d", at, n), answer{names: joined(want), next: at + int64(len(want))})
			}
		}
		for i, x := range l {
			k.expectNode(t, "/d/"+x.face, i+2, i%2 == 0, x.raw)
		}
		k.remount(t)
		for i, x := range l {
			k.expectNode(t, "/d/"+x.face, i+2, i%2 == 0, x.raw)
		}
	}
}

// P17.2: an entry is found by its face alone: not by its name on the disk, nor
// by what its face looks like, or would be without a short name.
func TestFaceAlone(t *testing.T) {
	for enc := range encodings {
		l := shownIn(enc)
		k := planted(t, enc, l)
		var came []string
		for _, x := range l {
			came = append(came, x.face)
		}
		for _, x := range l {
			for _, other := range []string{x.raw, strings.ToUpper(x.face), x.face + ".", " " + x.face, x.face + "\u0301", strings.ReplaceAll(x.face, "%2a", "*"), strings.ReplaceAll(x.face, "a", "%61"), strings.TrimSuffix(x.face, "-1"), strings.Repeat("%2a", 90), strings.Repeat("%80", 86), "\u0065\u0301", "\uac00\u11a8", "\u0107\u0327", "e"} {
				if other == "" || strings.Contains(other, "/") || other == ".." || slices.Contains(came, other) {
					continue
				}
				k.expectWrong(t, api.ErrNone, asked("/d/"+other)...)
				k.expectWrong(t, api.ErrNone, removes("/d/"+other, true), renames("/d/"+other, "/n"))
			}
		}
	}
}

// P17.2: as deep as a path may be; what was planted below that is listed, though
// no path leads to it.
func TestDeep(t *testing.T) {
	for enc := range encodings {
		k := fresh(t, 100, enc)
		for n := 1; n <= 16; n++ {
			k.expect(t, makes(deep(n, "d"), true), answer{node: n})
		}
		k.expectNode(t, deep(16, "d"), 16, true, "d")
		k.expectWrong(t, api.ErrLong, makes(deep(17, "d"), true))
		k.expect(t, plants(deep(16, "d"), "d", true), answer{node: 17})
		k.expectNames(t, deep(16, "d"), "d")
		k.expectWrong(t, api.ErrLong, asked(deep(17, "d"))...)
		k.expectWrong(t, api.ErrLong, removes(deep(17, "d"), true), renames(deep(17, "d"), "/x"), renames("/d", deep(17, "x")), plants(deep(17, "d"), "d", true))
		k.expectWrong(t, api.ErrNotEmpty, removes(deep(16, "d"), true))
		k.do(t, renames(deep(16, "d"), "/x"), removes("/x/d", true))
		k.expectMounted(t)
	}
}

// P17.2: paths of up to 1024 bytes.
func TestLongPath(t *testing.T) {
	k := fresh(t, 100, api.Latin1)
	name := letters(255)
	k.do(t, makes(of(name), true), makes(of(name, name), true), makes(of(name, name, name), true))
	k.expect(t, makes(of(name, name, name, name), false), answer{node: 4})
	k.expectNode(t, of(name, name, name, name), 4, false, name)
	k.expectWrong(t, api.ErrLong, asked(of(name, name, name, name+"a"))...)
	k.do(t, makes(of(name, name, name, "d"), true))
	k.expect(t, lookup(of(name, name, name, "d")), answer{node: 5, is: true})
	k.expectWrong(t, api.ErrNone, lookup(of(name, name, name, "d", letters(253))))
	k.expectWrong(t, api.ErrLong, lookup(of(name, name, name, "d", letters(254))))
}
