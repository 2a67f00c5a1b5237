package walk_test

import (
	"strings"
	"testing"

	"toponym/api"
	"toponym/tree"
)

// noPaths are each of Split's errors, in as many ways as there are.
func noPaths() map[string]api.Errno {
	no := map[string]api.Errno{
		"":                            api.ErrName,
		"a":                           api.ErrName,
		"a/b":                         api.ErrName,
		".":                           api.ErrName,
		"\\a":                         api.ErrName,
		" /a":                         api.ErrName,
		"\x00/a":                      api.ErrName,
		"\u2215a":                     api.ErrName,
		"\uff0fa":                     api.ErrName,
		"\xc0\xafa":                   api.ErrName,
		"//":                          api.ErrName,
		"///":                         api.ErrName,
		"/a/":                         api.ErrName,
		"/a/b/":                       api.ErrName,
		"//a":                         api.ErrName,
		"/a//b":                       api.ErrName,
		"/a//":                        api.ErrName,
		of(times(17, "a")...):         api.ErrLong,
		of(times(18, "a")...):         api.ErrLong,
		of(times(512, "a")...):        api.ErrLong,
		of(times(15, "a")...) + "/":   api.ErrName,
		of(times(16, "a")...) + "/":   api.ErrName,
		of(times(17, "a")...) + "/":   api.ErrName,
		of(letters(1024)):             api.ErrLong,
		of(letters(100000)):           api.ErrLong,
		of(times(20, letters(60))...): api.ErrLong,
		strings.Repeat("/", 1024):     api.ErrName,
		strings.Repeat("/", 1025):     api.ErrLong,
	}
	for _, name := range []string{".", "..", ""} {
		no[of(name, "b")] = api.ErrName
		no[of("a", name, "b")] = api.ErrName
		no[of("a", "b", name)] = api.ErrName
		no[of(name, name)] = api.ErrName
		no[of("a", name)] = api.ErrName
	}
	no["/."] = api.ErrName
	no["/.."] = api.ErrName
	return no
}

// P15.1: the errors, beside which there are no names. They are Node's and
// Parent's, too, ahead of all else: there is a tree, but nothing in it.
func TestNoPaths(t *testing.T) {
	for path, want := range noPaths() {
		expectNoSplit(t, path, want)
		for enc := range encodings {
			expectNoNode(t, enc, tree.New(), path, want)
			expectNoParent(t, enc, tree.New(), path, want)
		}
	}
}

// P15.1: / has no names; a path of one has one, and so on.
func TestSplit(t *testing.T) {
	expectSplit(t, "/")
	expectSplit(t, "/a", "a")
	expectSplit(t, "/abc", "abc")
	expectSplit(t, "/a/b", "a", "b")
	expectSplit(t, "/b/a", "b", "a")
	expectSplit(t, "/a/a/a", "a", "a", "a")
	expectSplit(t, "/a b/ / c", "a b", " ", " c")
	expectSplit(t, "/a\\b/:/*", "a\\b", ":", "*")
	expectSplit(t, "/caf\u00e9/\u30a2", "caf\u00e9", "\u30a2")
	expectSplit(t, "/\u2215/\u2024", "\u2215", "\u2024")
	expectSplit(t, "/\x00/\n", "\x00", "\n")
	expectSplit(t, "/%2f/%2e", "%2f", "%2e")
}

// P15.1: up to MaxDeep names, but not one more.
func TestSplitDeep(t *testing.T) {
	var names []string
	for n := range api.MaxDeep {
		names = append(names, letters(n+1))
		expectSplit(t, of(names...), names...)
	}
	for more := range 4 {
		expectNoSplit(t, of(append(names, times(more+1, "b")...)...), api.ErrLong)
	}
	expectSplit(t, of(times(16, "...")...), times(16, "...")...)
	expectNoSplit(t, of(times(17, "...")...), api.ErrLong)
}

// P15.1: up to MaxPath bytes, but not one more, of one name and of as many as
// may be.
func TestSplitLong(t *testing.T) {
	expectSplit(t, of(letters(1023)), letters(1023))
	expectNoSplit(t, of(letters(1024)), api.ErrLong)
	expectSplit(t, of("b", letters(1021)), "b", letters(1021))
	expectNoSplit(t, of("b", letters(1022)), api.ErrLong)
	expectSplit(t, of(letters(1021), "b"), letters(1021), "b")
	expectNoSplit(t, of(letters(1022), "b"), api.ErrLong)
	expectSplit(t, of(times(16, letters(63))...), times(16, letters(63))...)
	expectNoSplit(t, of(append(times(15, letters(63)), letters(64))...), api.ErrLong)
	expectSplit(t, of(letters(256)), letters(256))
	accents := strings.Repeat("\u00e9", 511)
	expectSplit(t, of(accents), accents)
	expectSplit(t, of(accents+"b"), accents+"b")
	expectNoSplit(t, of(accents+"bb"), api.ErrLong)
	expectNoSplit(t, of(accents+"\u00e9"), api.ErrLong)
}

// P15.1: names of points that are neither one nor two, and such as only begin or
// end with them.
func TestSplitPoints(t *testing.T) {
	for _, name := range []string{"...", "....", ".a", "a.", "..a", "a..", ".a.", "..a..", "a.b", "a..b", ". ", " .", ".. ", " ..", ".\x00", "%2e", "%2e%2e", ".%2e", "\u2025", "\uff0e"} {
		expectSplit(t, of(name), name)
		expectSplit(t, of(name, "b"), name, "b")
		expectSplit(t, of("a", name, "b"), "a", name, "b")
		expectSplit(t, of("a", "b", name), "a", "b", name)
	}
}

// P15.1: a name may be of bytes that are no text.
func TestSplitNoText(t *testing.T) {
	for _, name := range []string{"\xff", "caf\xe9", "\xc3", "\x80", "\xed\xa0\x80", "\xc0\x80", "\xc0\xaf", "\xf4\x90\x80\x80", ".\xff", "\xe2\x82"} {
		expectSplit(t, of(name), name)
		expectSplit(t, of(name, "\xac"), name, "\xac")
		expectNoSplit(t, of(name, ".."), api.ErrName)
		expectNoSplit(t, of(name)+"/", api.ErrName)
	}
	for b := range 256 {
		one := string([]byte{byte(b)})
		if one == "/" || one == "." {
			continue
		}
		expectSplit(t, "/"+one, one)
		expectNoSplit(t, one, api.ErrName)
		expectNoSplit(t, one+"/a", api.ErrName)
	}
}

// P15.1: too many bytes are told ahead of all else.
func TestTooManyBytesFirst(t *testing.T) {
	expectNoSplit(t, letters(1024), api.ErrName)
	expectNoSplit(t, letters(1025), api.ErrLong)
	for _, bad := range []string{"", ".", ".."} {
		expectNoSplit(t, of(bad, letters(1022-len(bad))), api.ErrName)
		expectNoSplit(t, of(bad, letters(1023-len(bad))), api.ErrLong)
		expectNoSplit(t, of(letters(1022-len(bad)), bad), api.ErrName)
		expectNoSplit(t, of(letters(1023-len(bad)), bad), api.ErrLong)
	}
}

// P15.1: a name that can't be is told ahead of too many names, wherever it is.
func TestNamesAheadOfDepth(t *testing.T) {
	for count := 16; count < 24; count++ {
		for at := range count {
			for _, bad := range []string{"", ".", ".."} {
				names := times(count, "a")
				names[at] = bad
				expectNoSplit(t, of(names...), api.ErrName)
			}
		}
	}
	expectNoSplit(t, of(times(17, "a")...)[1:], api.ErrName)
	expectNoSplit(t, of(append(times(500, "a"), "..")...), api.ErrName)
}
