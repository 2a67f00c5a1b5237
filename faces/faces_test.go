package faces_test

import (
	"fmt"
	"hash/fnv"
	"math"
	"slices"
	"strings"
	"testing"

	"toponym/api"
	"toponym/escape"
	"toponym/faces"
)

const encodings = 9

func noEncodings() []int {
	return []int{-1, 9, 10, -8, 255, 256, 264, math.MinInt, math.MaxInt, math.MinInt32, math.MaxInt32, 1 << 32, 1<<32 + 8}
}

// named is an entry that a directory may have.
func named(name string, number int) api.Entry {
	return api.Entry{Name: name, Node: 7, Dir: true, Cookie: 9, Short: number}
}

// rowOf are entries of these names, none of which is long, each of which can be
// told from the others by its node.
func rowOf(names ...string) []api.Entry {
	var l []api.Entry
	for i, name := range names {
		l = append(l, api.Entry{Name: name, Node: i + 1, Dir: i%2 == 0, Cookie: int64(i) + 100})
	}
	return l
}

// stars would be presented by three bytes each in all encodings: from 86 on
// they are long.
func stars(n int) string {
	return strings.Repeat("*", n)
}

func letters(n int) string {
	return strings.Repeat("a", n)
}

// hashed is what chapter 5 names, by a hash of the library's.
func hashed(raw string) uint32 {
	h := fnv.New32a()
	h.Write([]byte(raw))
	return h.Sum32()
}

// wantedShort is the chapter's short name, written by other means.
func wantedShort(raw string, n int) string {
	return fmt.Sprintf("%%~%08x-%d", hashed(raw), n)
}

// drawer picks numbers from 0 on by a small sum.
func drawer() func(below int) int {
	state := uint32(1)
	return func(below int) int {
		state = state*1664525 + 1013904223
		return int(state>>16) % below
	}
}

func expectOf(t *testing.T, enc int, e api.Entry, want string) {
	t.Helper()
	if face := faces.Of(enc, e); face != want {
		t.Errorf("Of(%d, % x, %d) = %+q; want %+q", enc, e.Name, e.Short, face, want)
	}
}

func expectFits(t *testing.T, enc int, e api.Entry, want bool) {
	t.Helper()
	if faces.Fits(enc, e) != want {
		t.Errorf("Fits(%d, % x, %d) = %v; want %v", enc, e.Name, e.Short, !want, want)
	}
}

func expectNames(t *testing.T, enc int, l []api.Entry, want ...string) {
	t.Helper()
	if names := faces.Names(enc, l); !slices.Equal(names, want) {
		t.Errorf("Names(%d, %#v) = %+q; want %+q", enc, l, names, want)
	}
}

func expectFound(t *testing.T, enc int, l []api.Entry, name string, want api.Entry) {
	t.Helper()
	if e, ok := faces.Find(enc, l, name); e != want || !ok {
		t.Errorf("Find(%d, %#v, %+q) = %#v, %v; want %#v, true", enc, l, name, e, ok, want)
	}
}

func expectNotFound(t *testing.T, enc int, l []api.Entry, name string) {
	t.Helper()
	if e, ok := faces.Find(enc, l, name); e != (api.Entry{}) || ok {
		t.Errorf("Find(%d, %#v, %+q) = %#v, %v; want none", enc, l, name, e, ok)
	}
}

func expectPick(t *testing.T, enc int, l []api.Entry, raw string, want int) {
	t.Helper()
	if n := faces.Pick(enc, l, raw); n != want {
		t.Errorf("Pick(%d, %#v, % x) = %d; want %d", enc, l, raw, n, want)
	}
}

func expectRaw(t *testing.T, enc int, name, want string, wrong api.Errno) {
	t.Helper()
	if raw, err := faces.Raw(enc, name); raw != want || err != wrong {
		t.Errorf("Raw(%d, %+q) = % x, %d; want % x, %d", enc, name, raw, err, want, wrong)
	}
}

func expectClean(t *testing.T, enc int, l []api.Entry, want bool) {
	t.Helper()
	if faces.Clean(enc, l) != want {
		t.Errorf("Clean(%d, %#v) = %v; want %v", enc, l, !want, want)
	}
}

// P14.1: the chapter's example: of 86 bytes 80 in ASCII, Short 1, the face is %~
// and a hash, -1. It is found by that, and by nothing else.
func TestExample(t *testing.T) {
	raw := strings.Repeat("\x80", 86)
	e := named(raw, 1)
	face := wantedShort(raw, 1)
	if len(face) != 12 || face[:2] != "%~" || face[10:] != "-1" {
		t.Fatalf("the face is %+q", face)
	}
	expectOf(t, api.ASCII, e, face)
	expectFits(t, api.ASCII, e, true)
	expectFits(t, api.ASCII, named(raw, 0), false)
	expectNames(t, api.ASCII, []api.Entry{e}, face)
	expectFound(t, api.ASCII, []api.Entry{e}, face, e)
	expectNotFound(t, api.ASCII, []api.Entry{e}, strings.Repeat("%80", 86))
	expectPick(t, api.ASCII, nil, raw, 1)
	expectPick(t, api.ASCII, []api.Entry{e}, raw, 2)
	expectRaw(t, api.ASCII, face, "", api.ErrName)
	expectClean(t, api.ASCII, []api.Entry{e}, true)
}

// P14.1: the hashes of some long names, by their numbers.
func TestKnown(t *testing.T) {
	expectOf(t, api.ASCII, named(strings.Repeat("\x80", 86), 1), "%~adcfbcdd-1")
	for enc := range encodings {
		expectOf(t, enc, named(stars(90), 1), "%~a99fd875-1")
		expectOf(t, enc, named(stars(255), 12), "%~236c826d-12")
		expectOf(t, enc, named(letters(256), 1000000), "%~6c44e2c5-1000000")
		expectOf(t, enc, named("a", 1), "%~e40c292c-1")
		expectOf(t, enc, named("", 2), "%~811c9dc5-2")
	}
}

// R5: lists that are handed in are left as they are, their spare room, too; what
// is answered is new.
func TestNothingKept(t *testing.T) {
	room := append(rowOf("z", "b", "c."), named(stars(90), 3), named("spare", 0), named("room", 5))
	before := slices.Clone(room)
	l := room[:4]
	for enc := range encodings {
		names := faces.Names(enc, l)
		want := slices.Clone(names)
		e, ok := faces.Find(enc, l, "b")
		if !ok {
			t.Fatalf("%d: b isn't found", enc)
		}
		e.Name, e.Short = "changed", 8
		faces.Pick(enc, l, stars(90))
		faces.Clean(enc, l)
		faces.Of(enc, l[0])
		faces.Fits(enc, l[0])
		if !slices.Equal(room, before) {
			t.Fatalf("%d: the list became %#v", enc, room)
		}
		if !slices.Equal(names, want) {
			t.Errorf("%d: the names became %+q", enc, names)
		}
		for i := range names {
			names[i] = "changed"
		}
		expectNames(t, enc, l, want...)
		l[1].Name = "d"
		if other := faces.Names(enc, l); other[1] != "d" || want[1] != "b" {
			t.Errorf("%d: the names are %+q", enc, other)
		}
		l[1].Name = "b"
	}
}

// R5, R7: what was answered is as it was behind further calls, and a call
// answers the same, whatever was asked between.
func TestAnswersStay(t *testing.T) {
	l := append(rowOf("a", "b.", "caf\xe9"), named(stars(90), 1), named(stars(91), 2))
	ask := func(enc int) string {
		e, ok := faces.Find(enc, l, "b%2e")
		raw, err := faces.Raw(enc, "b%2e")
		return fmt.Sprintln(faces.Of(enc, l[2]), faces.Fits(enc, l[3]), e, ok, faces.Pick(enc, l, stars(90)), raw, err, faces.Clean(enc, l), faces.Names(enc, l))
	}
	var answers []string
	var lists [][]string
	for enc := range encodings {
		answers = append(answers, ask(enc))
		lists = append(lists, faces.Names(enc, l))
	}
	for enc := encodings - 1; enc >= 0; enc-- {
		if answer := ask(enc); answer != answers[enc] {
			t.Errorf("%d: %s, then %s", enc, answers[enc], answer)
		}
		expectNames(t, enc, l, lists[enc]...)
	}
}

// P14.1, P14.2: what is no encoding presents nothing, so that nothing is long
// there; a short name is that of bytes.
func TestNoEncoding(t *testing.T) {
	for _, enc := range noEncodings() {
		for _, raw := range []string{"", "a", "\xff", stars(90), letters(256)} {
			expectOf(t, enc, named(raw, 0), escape.Present(enc, raw))
			expectOf(t, enc, named(raw, 0), "")
			expectOf(t, enc, named(raw, 1), wantedShort(raw, 1))
			expectFits(t, enc, named(raw, 0), true)
			expectFits(t, enc, named(raw, 1), false)
			expectPick(t, enc, nil, raw, 0)
			expectPick(t, enc, []api.Entry{named(raw, 1)}, raw, 0)
			expectClean(t, enc, []api.Entry{named(raw, 0)}, true)
			expectClean(t, enc, []api.Entry{named(raw, 1)}, false)
			expectNotFound(t, enc, []api.Entry{named("a", 0)}, "a")
			expectRaw(t, enc, raw+"a", "", map[bool]api.Errno{false: api.ErrName, true: api.ErrLong}[len(raw) > 254])
		}
		expectClean(t, enc, nil, true)
		expectClean(t, enc, rowOf("a", "b"), false)
		expectNames(t, enc, rowOf("a", "b"), "", "")
	}
}
