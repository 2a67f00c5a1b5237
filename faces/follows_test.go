package faces_test

import (
	"slices"
	"strings"
	"testing"
	"unicode/utf8"

	"toponym/api"
	"toponym/compose"
	"toponym/escape"
	"toponym/faces"
	"toponym/utf"
)

// plant puts names, one by one, with the Shorts that are picked.
func plant(enc int, l []api.Entry, names ...string) []api.Entry {
	for _, name := range names {
		l = append(l, named(name, faces.Pick(enc, l, name)))
	}
	return l
}

// expectOwnFaces asks for what follows of a list's being clean.
func expectOwnFaces(t *testing.T, enc int, l []api.Entry) {
	t.Helper()
	expectClean(t, enc, l, true)
	came := map[string]string{}
	for i, face := range faces.Names(enc, l) {
		if other, ok := came[face]; ok {
			t.Fatalf("%d: % x and % x have the face %+q", enc, other, l[i].Name, face)
		}
		came[face] = l[i].Name
		expectFits(t, enc, l[i], true)
		expectFound(t, enc, l, face, l[i])
	}
}

// mixture are different names: many of one hash, both long and not, many that
// are long by a little, and ones of bytes of each kind.
func mixture() []string {
	to := aimed(hashed("a"))
	names := append(to.many(60), to.names("")...)
	names = append(names, to.names("\xff")...)
	for n := range 8 {
		names = append(names, stars(82+n), letters(252+n), strings.Repeat("\xe9", 82+n), strings.Repeat("\xff", 82+n), strings.Repeat("\u0301", 39+n), strings.Repeat("e\u0301", 124+n), strings.Repeat("\u00e9", 39+n), strings.Repeat("\x83\x41", 82+n))
	}
	names = append(names, "a", ".", "..", "", "%2e", "/", "\x00", "e\u0301", "\u00e9", "%c3%a9", "\u0301", "%cc%81", "caf\xe9", "caf%e9", "caf\u00e9")
	for _, name := range slices.Clone(names) {
		names = append(names, wantedShort(name, 1))
	}
	slices.Sort(names)
	return slices.Compact(names)
}

// P14.3: entries of different names, whose Shorts were picked one by one, fit,
// and are clean: of names of all kinds, in some orders.
func TestPickedOneByOne(t *testing.T) {
	draw := drawer()
	names := mixture()
	for enc := range encodings {
		for i := range names {
			j := draw(len(names))
			names[i], names[j] = names[j], names[i]
		}
		expectOwnFaces(t, enc, plant(enc, nil, names...))
	}
}

// P14.3: many names of one hash have the numbers from 1 on, in the order in
// which they were put.
func TestPickedOfOneHash(t *testing.T) {
	names := aimed(hashed(stars(90))).many(200)
	for enc := range encodings {
		l := plant(enc, nil, names...)
		for i, e := range l {
			if e.Short != i+1 {
				t.Fatalf("%d: the Short of %d is %d", enc, i, e.Short)
			}
		}
		expectOwnFaces(t, enc, l)
		slices.Reverse(l)
		expectOwnFaces(t, enc, l)
		expectPick(t, enc, l, stars(90), 201)
		expectPick(t, enc, l, stars(91), 1)
	}
}

// P14.3: they are so, whatever of them goes, and comes again under another
// number, between.
func TestPickedBetween(t *testing.T) {
	draw := drawer()
	names := append(aimed(hashed("a")).many(40), "a", "b", stars(90), letters(256), letters(255), "\xff")
	for enc := range encodings {
		var l []api.Entry
		most := 0
		for range 400 {
			name := names[draw(len(names))]
			at := slices.IndexFunc(l, func(e api.Entry) bool { return e.Name == name })
			if at >= 0 {
				l = slices.Delete(l, at, at+1)
			} else {
				l = plant(enc, l, name)
			}
			expectClean(t, enc, l, true)
			for _, e := range l {
				most = max(most, e.Short)
			}
		}
		expectOwnFaces(t, enc, l)
		if most > 40 || most < 20 {
			t.Errorf("%d: the greatest Short is %d", enc, most)
		}
	}
}

// P14.3: where one's own name is still in the list, another number is picked: a
// name that is put a second time has another face.
func TestPickedTwice(t *testing.T) {
	for enc := range encodings {
		l := plant(enc, nil, stars(90), stars(90), stars(91), stars(90))
		expectNames(t, enc, l, wantedShort(stars(90), 1), wantedShort(stars(90), 2), wantedShort(stars(91), 1), wantedShort(stars(90), 3))
		expectOwnFaces(t, enc, l)
		expectClean(t, enc, plant(enc, l, "a", "a"), false)
	}
}

// apartAlike is a face, but for how its characters are put together.
func apartAlike(t *testing.T, face string) string {
	t.Helper()
	l, ok := utf.All(face)
	if !ok {
		t.Fatalf("%+q is no text", face)
	}
	return utf.Join(compose.Together(compose.Apart(l))...)
}

// P2: a face is UTF-8 of at most MaxName bytes; a good name that isn't long is
// restored from it; each long name has a short one, and no other has; on a disk
// of HFS no two faces differ by how they are put together alone.
func TestFaces(t *testing.T) {
	for enc := range encodings {
		l := plant(enc, nil, mixture()...)
		alike := map[string]bool{}
		for i, face := range faces.Names(enc, l) {
			if !utf8.ValidString(face) || len(face) > api.MaxName {
				t.Errorf("%d: % x has the face %+q", enc, l[i].Name, face)
			}
			if long := len(escape.Present(enc, l[i].Name)) > api.MaxName; long != (l[i].Short > 0) {
				t.Errorf("%d: % x has the Short %d", enc, l[i].Name, l[i].Short)
			}
			if l[i].Short == 0 && escape.Good(l[i].Name) {
				expectRaw(t, enc, face, l[i].Name, api.OK)
			} else {
				expectRaw(t, enc, face, "", api.ErrName)
			}
			if enc == api.HFS && alike[apartAlike(t, face)] {
				t.Errorf("%+q isn't the only one", face)
			}
			alike[apartAlike(t, face)] = true
		}
	}
}

// P3: a text of an encoding's characters, without reserved ones, is the face of
// its bytes, and made as these.
func TestTexts(t *testing.T) {
	for _, x := range []struct {
		enc       int
		raw, name string
	}{
		{api.ASCII, "a name.txt", "a name.txt"},
		{api.Latin1, "caf\xe9", "caf\u00e9"},
		{api.Latin2, "\xb1\xea", "\u0105\u0119"},
		{api.Latin9, "5 \xa4", "5 \u20ac"},
		{api.CP437, "\x80\xe9", "\u00c7\u0398"},
		{api.CP850, "\xd5\x9b", "\u0131\u00f8"},
		{api.Kana, "\x83\x41\xb1", "\u30a2\uff71"},
		{api.UTF8, "\u00e9e\u0301", "\u00e9e\u0301"},
		{api.HFS, "e\u0301", "\u00e9"},
	} {
		expectOf(t, x.enc, named(x.raw, 0), x.name)
		expectRaw(t, x.enc, x.name, x.raw, api.OK)
		expectMade(t, x.enc, x.name)
	}
	expectRaw(t, api.Latin1, "\u20ac", "", api.ErrName)
}
