package fs_test

import (
	"cmp"
	"slices"
	"strconv"
	"strings"
	"testing"

	"toponym/api"
)

// expectNoParent asks of what a call does with a path whose last name it goes
// by: Parent's errors come first.
func (k *disk) expectNoParent(t *testing.T, of func(path string) call) {
	t.Helper()
	for err, paths := range pathless() {
		for _, path := range paths {
			k.expectWrong(t, err, of(path))
		}
	}
	k.expectWrong(t, api.ErrArg, of("/"))
	for _, path := range []string{"/x/y", "/x/%61", "/a/x/y", "/x/" + letters(256), "/" + stars(90) + "/a", "/e/e/e", "/a%2e/f"} {
		k.expectWrong(t, api.ErrNone, of(path))
	}
	for _, path := range []string{"/f/x", "/f/f", "/f/x/y", "/f/%61", "/a/b/c/c", "/f/" + letters(256), "/" + face90 + "/" + face90} {
		k.expectWrong(t, api.ErrNotDir, of(path))
	}
}

// P17.3: what is made is found by its path, listed by it, and goes by it, files
// and directories, in each encoding.
func TestMake(t *testing.T) {
	for enc := range encodings {
		k := fresh(t, 100, enc)
		k.expect(t, makes("/a", true), answer{node: 1})
		k.expect(t, makes("/a/f", false), answer{node: 2})
		k.expect(t, makes("/a/a", true), answer{node: 3})
		k.expect(t, makes("/f", false), answer{node: 4})
		k.expectNames(t, "/", "a", "f")
		k.expectNames(t, "/a", "f", "a")
		k.expectNames(t, "/a/a")
		k.expectNode(t, "/a/f", 2, false, "f")
		k.expectNode(t, "/a/a", 3, true, "a")
		k.expectNode(t, "/f", 4, false, "f")
		k.expectMounted(t)
		k.do(t, removes("/a/f", false))
		k.expect(t, makes("/a/a/n", false), answer{node: 2})
		k.expect(t, makes("/a/f", true), answer{node: 5})
		k.expectNames(t, "/a", "a", "f")
		k.expectMounted(t)
	}
}

// P17.3, P3: what is made has the bytes that are presented so, in each encoding;
// what is long is made by no path.
func TestMakeFaces(t *testing.T) {
	for enc := range encodings {
		k := fresh(t, 200, enc)
		node := 0
		for i, x := range shownIn(enc) {
			path := "/" + x.face
			if isLong(enc, x.raw) {
				k.expectWrong(t, api.ErrName, makes(path, true), makes(path, false))
				continue
			}
			node++
			k.expect(t, makes(path, i%2 == 0), answer{node: node})
			k.expectNode(t, path, node, i%2 == 0, x.raw)
			k.expect(t, list("/", int64(node)-1, 1), answer{names: joined([]string{x.face}), next: int64(node)})
			k.expectWrong(t, api.ErrExists, makes(path, i%2 == 0), makes(path, i%2 == 1), plants("/", x.raw, true))
		}
		k.expectMounted(t)
	}
}

// P17.3: Make's errors, one by one.
func TestMakeWrong(t *testing.T) {
	for enc := range encodings {
		k := small(t, 60, enc)
		for _, isDir := range []bool{false, true} {
			k.expectNoParent(t, func(path string) call { return makes(path, isDir) })
			for _, path := range []string{"/a", "/f", "/a/b", "/a/b/c", "/e", "/" + face90} {
				k.expectWrong(t, api.ErrExists, makes(path, isDir))
			}
			for _, path := range []string{"/" + letters(256), "/a/" + letters(700), "/" + stars(256), "/e/" + strings.Repeat("\xff", 256), "/" + strings.Repeat("%2a", 86)} {
				k.expectWrong(t, api.ErrLong, makes(path, isDir))
			}
			for _, name := range []string{"a.", "a ", "%", "%6", "%zz", "%61", "%2E", "%00", "*", "a?", "\x01", "\x7f", "\xff", "a\xc3", face90[:11] + "2", "%~00000000-1", "%2f", "%2e%2e"} {
				k.expectWrong(t, api.ErrName, makes("/"+name, isDir), makes("/a/"+name, isDir), makes("/a/b/"+name, isDir))
			}
		}
	}
}

// P17.3: what an encoding hasn't is no name there.
func TestMakeNotThere(t *testing.T) {
	for enc, names := range [][]string{
		{"\u00e9", "\u20ac", "\u0080", "e\u0301"},
		{"\u20ac", "\u0105", "e\u0301", "%e9"},
		{"\u00a1", "\u20ac", "\u0398", "%b1"},
		{"\u00a4", "\u0398", "e\u0301", "%a4"},
		{"\u00ff\u0100", "\u00c0", "\u20ac", "%e9"},
		{"\u0398", "\u20ac", "\u2561", "%80"},
		{"\u00e9", "\u4e00", "\u03a2", "%83%41", "%b1"},
		{"%c3%a9", "\xff", "\xed\xa0\x80", "e%cc%81"},
		{"e\u0301", "\u0301", "%65%cc%81", "e%cc%81", "\u0107\u0327", "\u1100\u1161", strings.Repeat("\u00e9", 86)},
	} {
		k := small(t, 60, enc)
		for _, name := range names {
			k.expectWrong(t, api.ErrName, makes("/"+name, false), makes("/a/"+name, true), renames("/f", "/"+name))
		}
	}
}

// P17.3: as long as a name may be, as it is presented and on the disk.
func TestMakeLongest(t *testing.T) {
	k := fresh(t, 100, api.HFS)
	k.expect(t, makes("/"+strings.Repeat("\u00e9", 85), false), answer{node: 1})
	k.expect(t, raw("/"+strings.Repeat("\u00e9", 85)), answer{text: strings.Repeat("e\u0301", 85)})
	k.expectWrong(t, api.ErrName, makes("/"+strings.Repeat("\u00e9", 86), false), makes("/"+strings.Repeat("\u00e9", 85)+"e", false))
	k.expectWrong(t, api.ErrLong, makes("/"+strings.Repeat("\u00e9", 128), false))
	k = fresh(t, 100, api.Latin1)
	k.do(t, makes("/"+letters(255), false), makes("/"+letters(253)+"\u00e9", false), makes("/"+strings.Repeat("%2a", 85), true), makes("/"+strings.Repeat("\u00e9", 127), true))
	k.expectWrong(t, api.ErrLong, makes("/"+letters(256), false), makes("/"+letters(254)+"\u00e9", false), makes("/"+strings.Repeat("\u00e9", 128), true), makes("/"+strings.Repeat("%2a", 85)+"a", true))
	k.expectMounted(t)
}

// P17.3: Remove takes a file for a file, and a directory that has nothing for a
// directory; its number is free then.
func TestRemove(t *testing.T) {
	for enc := range encodings {
		k := small(t, 60, enc)
		k.expect(t, removes("/f", false), answer{})
		k.expectWrong(t, api.ErrNone, asked("/f")...)
		k.expect(t, removes("/e", true), answer{})
		k.expectNames(t, "/", "a", face90)
		k.expect(t, removes("/"+face90, false), answer{})
		k.expect(t, removes("/a/b/c", false), answer{})
		k.expect(t, removes("/a/b", true), answer{})
		k.expect(t, removes("/a", true), answer{})
		k.expectNames(t, "/")
		k.expectMounted(t)
		k.expect(t, makes("/a", false), answer{node: 1})
		k.expect(t, list("/", 6, 5), answer{names: joined([]string{"a"}), next: 7})
	}
}

// P17.3: Remove's errors, one by one.
func TestRemoveWrong(t *testing.T) {
	for enc := range encodings {
		k := small(t, 60, enc)
		for _, isDir := range []bool{false, true} {
			k.expectNoParent(t, func(path string) call { return removes(path, isDir) })
			for _, path := range []string{"/x", "/a/x", "/a/b/a", "/" + letters(256), "/a.", "/%61", "/\xff", "/*", "/" + stars(90), "/%~a99fd875-2", "/a/" + face90} {
				k.expectWrong(t, api.ErrNone, removes(path, isDir))
			}
		}
		k.expectWrong(t, api.ErrNotDir, removes("/f", true), removes("/a/b/c", true), removes("/"+face90, true))
		k.expectWrong(t, api.ErrDir, removes("/e", false), removes("/a", false), removes("/a/b", false))
		k.expectWrong(t, api.ErrNotEmpty, removes("/a", true), removes("/a/b", true))
	}
}

// P17.3: what has a face of each kind is removed by it.
func TestRemoveFaces(t *testing.T) {
	for enc := range encodings {
		l := shownIn(enc)
		k := planted(t, enc, l)
		for i, x := range l {
			k.expect(t, removes("/d/"+x.face, i%2 == 0), answer{})
			k.expectWrong(t, api.ErrNone, removes("/d/"+x.face, i%2 == 0), raw("/d/"+x.face))
		}
		k.expectNames(t, "/d")
		k.expectMounted(t)
	}
}

// P17.3: within a directory, into another one, up and down, with all that is
// below; the entry is a new one, and stands last.
func TestRename(t *testing.T) {
	for enc := range encodings {
		k := small(t, 100, enc)
		k.expect(t, renames("/a", "/n"), answer{})
		k.expectWrong(t, api.ErrNone, lookup("/a"), lookup("/a/b"))
		k.expectNode(t, "/n/b/c", 3, false, "c")
		k.expectNames(t, "/", "f", "e", face90, "n")
		k.expect(t, renames("/n/b", "/e/b"), answer{})
		k.expectNode(t, "/e/b/c", 3, false, "c")
		k.expectNames(t, "/n")
		k.expect(t, renames("/e/b", "/b"), answer{})
		k.expect(t, renames("/b/c", "/e/f"), answer{})
		k.expectNode(t, "/e/f", 3, false, "f")
		k.expect(t, renames("/f", "/b/f"), answer{})
		k.expectNode(t, "/b/f", 4, false, "f")
		k.expect(t, renames("/e", "/b/e"), answer{})
		k.expectNode(t, "/b/e/f", 3, false, "f")
		k.expectNames(t, "/b", "f", "e")
		k.expect(t, list("/b", 0, 1), answer{names: joined([]string{"f"}), next: 11})
		k.expectMounted(t)
	}
}

// P17.3: from each kind of face to each other one; one that was long has no
// short name any more.
func TestRenameFaces(t *testing.T) {
	for enc := range encodings {
		for _, to := range shownIn(enc) {
			k := planted(t, enc, shownIn(enc))
			k.do(t, makes("/n", true))
			for i, x := range shownIn(enc) {
				from, path := "/d/"+x.face, "/n/"+to.face
				if isLong(enc, to.raw) {
					k.expectWrong(t, api.ErrName, renames(from, path))
					continue
				}
				k.expect(t, renames(from, path), answer{})
				k.expectWrong(t, api.ErrNone, lookup(from))
				k.expectNode(t, path, i+2, i%2 == 0, to.raw)
				k.do(t, removes(path, i%2 == 0))
			}
			k.expectMounted(t)
		}
	}
}

// P17.3: Rename's errors, one by one: those of from come ahead of all of to.
func TestRenameWrong(t *testing.T) {
	for enc := range encodings {
		k := small(t, 60, enc)
		for _, other := range []string{"/n", "", "/", "/f/x", "/x/y", "/a", letters(2000), "/%61"} {
			k.expectNoParent(t, func(path string) call { return renames(path, other) })
			for _, path := range []string{"/x", "/a/x", "/" + letters(256), "/a.", "/%61", "/\xff", "/" + stars(90), "/%~a99fd875-2"} {
				k.expectWrong(t, api.ErrNone, renames(path, other))
			}
		}
		for _, other := range []string{"/a", "/f", "/a/b", "/" + face90} {
			k.expectNoParent(t, func(path string) call { return renames(other, path) })
		}
		for _, from := range []string{"/a", "/f", "/a/b/c", "/" + face90} {
			for _, to := range []string{"/a", "/f", "/e", "/a/b", "/" + face90} {
				k.expectWrong(t, api.ErrExists, renames(from, to))
			}
			k.expectWrong(t, api.ErrLong, renames(from, "/"+letters(256)), renames(from, "/a/b/"+stars(300)))
			for _, name := range []string{"a.", "%", "%61", "*", "\xff", "%2f", "%~a99fd875-2", "%~00000000-1"} {
				k.expectWrong(t, api.ErrName, renames(from, "/"+name), renames(from, "/a/b/"+name))
			}
			k.expectWrong(t, api.ErrName, renames(from, "/e/"+face90))
		}
		k.expectWrong(t, api.ErrLoop, renames("/a", "/a/n"), renames("/a", "/a/b/n"), renames("/a/b", "/a/b/b"), renames("/e", "/e/e"))
	}
}

// P17.3: onto itself, and below itself: what is there already, and what is no
// name, come ahead of the loop.
func TestRenameItself(t *testing.T) {
	for enc := range encodings {
		k := small(t, 60, enc)
		k.expectWrong(t, api.ErrExists, renames("/a", "/a"), renames("/a/b/c", "/a/b/c"), renames("/"+face90, "/"+face90), renames("/e", "/e"), renames("/a", "/a/b"), renames("/a", "/a/b/c"))
		k.expectWrong(t, api.ErrNotDir, renames("/f", "/f/f"), renames("/a", "/a/b/c/a"), renames("/"+face90, "/"+face90+"/a"))
		k.expectWrong(t, api.ErrNone, renames("/a", "/a/x/a"))
		k.expectWrong(t, api.ErrName, renames("/a", "/a/%61"), renames("/a", "/a/b/a."))
		k.expectWrong(t, api.ErrLong, renames("/a", "/a/"+letters(256)))
		k.expectWrong(t, api.ErrLoop, renames("/a", "/a/a"), renames("/a", "/a/b/a"))
		k.expect(t, renames("/a/b", "/b"), answer{})
		k.expect(t, renames("/a", "/b/a"), answer{})
		k.expectWrong(t, api.ErrLoop, renames("/b", "/b/a/b"))
	}
}

// P17.3: bytes that no path can make are planted, in each encoding: each of them
// is long, and has a short name.
func TestPlantLong(t *testing.T) {
	for enc := range encodings {
		k := fresh(t, 200, enc)
		k.do(t, makes("/d", true))
		node := 1
		for _, x := range tellings() {
			for _, dir := range []string{"", "/d"} {
				node++
				path := dir + "/" + faceOf(enc, api.Entry{Name: x.raw})
				if slices.Contains(x.long, enc) {
					path = dir + "/" + faceOf(enc, api.Entry{Name: x.raw, Short: 1})
					k.expectWrong(t, api.ErrName, makes(path, false), renames("/d", path+"0"))
				}
				k.expectWrong(t, api.ErrNone, lookup(path))
				k.expect(t, plants(cmp.Or(dir, "/"), x.raw, node%2 == 0), answer{node: node})
				k.expectNode(t, path, node, node%2 == 0, x.raw)
				k.expectWrong(t, api.ErrExists, makes(path, false), renames("/d", path))
			}
		}
		k.expectMounted(t)
	}
}

// P17.3: names of one hash have other numbers, in each directory from 1 on; a
// name of another hash has 1 beside them.
func TestPlantAlike(t *testing.T) {
	l := alike()
	for enc := range encodings {
		k := fresh(t, 300, enc)
		k.do(t, makes("/d", true))
		for i, name := range l {
			face, other := faceOf(enc, api.Entry{Name: l[0], Short: i + 1}), stars(100+i)
			k.do(t, plants("/", name, false), plants("/d", l[7-i], true), plants("/", other, false))
			k.expect(t, raw("/"+face), answer{text: name})
			k.expect(t, raw("/d/"+face), answer{text: l[7-i]})
			k.expect(t, raw("/"+faceOf(enc, api.Entry{Name: other, Short: 1})), answer{text: other})
			k.expectWrong(t, api.ErrExists, plants("/", name, false), plants("/", name, true), plants("/d", l[7], true))
		}
		k.expectMounted(t)
	}
}

// P17.3: a number that is free again is taken, the least one first.
func TestPlantAlikeAgain(t *testing.T) {
	l := alike()
	face := func(number int) string { return faceOf(api.ASCII, api.Entry{Name: l[0], Short: number}) }
	for enc := range encodings {
		k := fresh(t, 300, enc)
		for _, name := range l[:6] {
			k.do(t, plants("/", name, false))
		}
		k.do(t, removes("/"+face(5), false), renames("/"+face(2), "/n"), removes("/"+face(4), false))
		k.expectWrong(t, api.ErrNone, lookup("/"+face(2)), lookup("/"+face(4)), lookup("/"+face(5)))
		for i, number := range []int{2, 4, 5, 7} {
			name := []string{l[6], l[4], l[7], l[1]}[i]
			k.do(t, plants("/", name, true))
			k.expect(t, raw("/"+face(number)), answer{text: name})
		}
		k.expectNames(t, "/", face(1), face(3), face(6), "n", face(2), face(4), face(5), face(7))
		k.expectMounted(t)
	}
}

// P17.3: what isn't long is planted as it is, and is there as if it had been
// made.
func TestPlantPlain(t *testing.T) {
	for enc := range encodings {
		k := small(t, 60, enc)
		k.expect(t, plants("/a/b", "n", true), answer{node: 7})
		k.expectNode(t, "/a/b/n", 7, true, "n")
		k.expect(t, plants("/a/b/n", "\x01\xff.", false), answer{node: 8})
		k.expect(t, plants("/", "...", false), answer{node: 9})
		k.expectNode(t, "/..%2e", 9, false, "...")
		k.expect(t, plants("/", face90, false), answer{node: 10})
		k.expectNode(t, "/%25~a99fd875-1", 10, false, face90)
		k.expectNode(t, "/"+face90, 6, false, stars(90))
		k.expect(t, plants("/e", letters(255), true), answer{node: 11})
		k.expectWrong(t, api.ErrExists, makes("/e/"+letters(255), false))
		k.expectMounted(t)
	}
}

// P17.3: Plant's errors, one by one.
func TestPlantWrong(t *testing.T) {
	for enc := range encodings {
		k := small(t, 60, enc)
		names := []string{"n", "a", "", ".", "a/b", "\x00", stars(90), letters(256), strings.Repeat("/", 70000)}
		for _, isDir := range []bool{false, true} {
			for _, name := range names {
				for err, paths := range pathless() {
					for _, path := range paths {
						k.expectWrong(t, err, plants(path, name, isDir))
					}
				}
				for _, path := range []string{"/x", "/a/x", "/" + letters(256), "/a.", "/x/y", "/" + stars(90), "/\xff"} {
					k.expectWrong(t, api.ErrNone, plants(path, name, isDir))
				}
				for _, path := range []string{"/f", "/a/b/c", "/" + face90, "/f/x", "/f/%61"} {
					k.expectWrong(t, api.ErrNotDir, plants(path, name, isDir))
				}
			}
			for _, path := range []string{"/", "/a", "/e"} {
				k.expectWrong(t, api.ErrArg, plants(path, letters(256), isDir), plants(path, stars(256), isDir), plants(path, strings.Repeat("/", 256), isDir), plants(path, strings.Repeat("\x00", 70000), isDir))
				k.expectWrong(t, api.ErrName, plants(path, "", isDir), plants(path, ".", isDir), plants(path, "..", isDir), plants(path, "a/b", isDir), plants(path, "/", isDir), plants(path, "\x00", isDir), plants(path, stars(90)+"/", isDir), plants(path, stars(254)+"\x00", isDir), plants(path, "a/", isDir))
			}
			k.expectWrong(t, api.ErrExists, plants("/", "a", isDir), plants("/", "f", isDir), plants("/", stars(90), isDir), plants("/a", "b", isDir), plants("/a/b", "c", isDir))
		}
	}
}

// crowded has as many nodes as may be.
func crowded(t *testing.T, enc int) *disk {
	t.Helper()
	k := small(t, 400, enc)
	for n := 7; n <= api.MaxNodes; n++ {
		k.do(t, makes("/e/"+strconv.Itoa(n), n%2 == 0))
	}
	return k
}

// P17.3: where no number is left: all but that comes first, and one that is
// given back is taken.
func TestMany(t *testing.T) {
	for _, enc := range []int{api.ASCII, api.CP850, api.HFS} {
		k := crowded(t, enc)
		k.expectWrong(t, api.ErrMany, makes("/n", true), makes("/e/n", false), plants("/", "n", false), plants("/e", stars(90), true))
		k.expectWrong(t, api.ErrExists, makes("/a", true), makes("/"+face90, true), plants("/", "a", true), plants("/", stars(90), true))
		k.expectWrong(t, api.ErrName, makes("/%61", true), plants("/", "..", true))
		k.expectWrong(t, api.ErrLong, makes("/"+letters(256), true))
		k.expectWrong(t, api.ErrArg, plants("/", letters(256), true))
		k.expectWrong(t, api.ErrNotDir, makes("/f/x", true), plants("/f", "x", true))
		k.do(t, renames("/f", "/e/f"), removes("/a/b/c", false))
		k.expect(t, plants("/a/b", stars(90), false), answer{node: 3})
		k.expectWrong(t, api.ErrMany, makes("/n", true), plants("/", "n", true))
		k.expectMounted(t)
	}
}

// P17.3: where neither a number nor room is left, the number is asked for first.
func TestManyAndFull(t *testing.T) {
	for _, enc := range []int{api.Latin1, api.Kana} {
		k := crowded(t, enc)
		full := false
		for n := 7; n <= api.MaxNodes && !full; n++ {
			name := "/e/" + strconv.Itoa(n)
			full = k.try(t, renames(name, name+letters(45))).err == api.ErrFull
		}
		k.expectWrong(t, api.ErrFull, renames("/f", "/g"), removes("/f", false))
		k.expectWrong(t, api.ErrMany, makes("/n", true), plants("/", stars(90)+"n", true))
		k.expectMounted(t)
	}
}
