package fs_test

import (
	"strconv"
	"strings"
	"testing"
	"unicode/utf8"

	"toponym/api"
	"toponym/charset"
	"toponym/compose"
	"toponym/escape"
)

// expectFaces is P2's of each entry of each directory.
func (k *disk) expectFaces(t *testing.T) {
	t.Helper()
	var below func(dir int, path string, depth int)
	below = func(dir int, path string, depth int) {
		came, apart := map[string]int{}, map[string]int{}
		for _, e := range k.m.dirs[dir] {
			names, next, err := k.f.List(path+"/"[min(depth, 1):], e.Cookie-1, 1)
			if err != api.OK || len(names) != 1 || next != e.Cookie {
				t.Fatalf("%d: List(%+q, %d, 1) = %+q, %d, %d", k.enc, path, e.Cookie-1, names, next, err)
			}
			face := names[0]
			came[face]++
			apart[string(compose.Apart([]rune(face)))]++
			k.expectFace(t, e, face)
			k.expectLeads(t, path+"/"+face, e)
			if e.Dir && depth < 15 && len(path) < 600 {
				below(e.Node, path+"/"+face, depth+1)
			}
		}
		if count := len(k.m.dirs[dir]); len(came) != count || k.enc == api.HFS && len(apart) != count {
			t.Fatalf("%d: %+q: of %d entries there are the faces %v", k.enc, path, count, came)
		}
	}
	below(0, "", 0)
}

func (k *disk) expectFace(t *testing.T, e api.Entry, face string) {
	t.Helper()
	if !utf8.ValidString(face) || len(face) > 255 || len(face) == 0 || strings.Contains(face, "/") {
		t.Fatalf("%d: % x has the face %+q", k.enc, e.Name, face)
	}
	isShort := strings.HasPrefix(face, "%~")
	if isShort != isLong(k.enc, e.Name) || isShort != (e.Short > 0) {
		t.Fatalf("%d: % x has the face %+q, and the Short %d", k.enc, e.Name, face, e.Short)
	}
	if back, err := escape.Restore(k.enc, face); !isShort && (back != e.Name || err != api.OK) {
		t.Fatalf("%d: % x has the face %+q, which is restored to % x, %d", k.enc, e.Name, face, back, err)
	}
}

func (k *disk) expectLeads(t *testing.T, path string, e api.Entry) {
	t.Helper()
	if len(path) > api.MaxPath {
		return
	}
	node, is, err := k.f.Lookup(path)
	if node != e.Node || is != e.Dir || err != api.OK {
		t.Fatalf("%d: Lookup(%+q) = %d, %v, %d; want %d, %v", k.enc, path, node, is, err, e.Node, e.Dir)
	}
	if name, err := k.f.Raw(path); name != e.Name || err != api.OK {
		t.Fatalf("%d: Raw(%+q) = % x, %d; want % x", k.enc, path, name, err, e.Name)
	}
}

// step is a call, or something else, in a row.
type step struct {
	what string
	do   func(t *testing.T, k *disk)
}

func tries(c call) step {
	return step{c.what, func(t *testing.T, k *disk) { k.try(t, c) }}
}

func (k *disk) run(t *testing.T, steps ...step) {
	t.Helper()
	defer func() {
		if t.Failed() {
			for _, s := range steps {
				t.Log(s.what)
			}
		}
	}()
	for _, s := range steps {
		s.do(t, k)
	}
	k.expectFaces(t)
	k.expectMounted(t)
}

// P1, P2, P17.1 to P17.3: all rows of up to three steps of these, on a device
// whose bank is full soon.
func TestRows(t *testing.T) {
	l := alike()
	first, second := "/"+faceOf(0, api.Entry{Name: l[0], Short: 1}), "/"+faceOf(0, api.Entry{Name: l[0], Short: 2})
	remounts := step{"Mount", func(t *testing.T, k *disk) { k.remount(t) }}
	steps := []step{
		tries(makes("/a", true)), tries(makes("/a/\u00e9", false)), tries(makes("/b", false)), tries(makes("/a/b", true)),
		tries(plants("/", l[0], true)), tries(plants("/", l[1], false)), tries(plants("/a", l[2], false)), tries(plants("/a", "\xc3\xa9", true)),
		tries(removes("/a", true)), tries(removes("/b", false)), tries(removes(first, true)), tries(removes("/a/\u00e9", false)),
		tries(renames("/a", "/b")), tries(renames("/b", "/a")), tries(renames("/a/b", "/b")), tries(renames(first, "/a")), tries(renames(second, first)), tries(renames("/a", first+"/a")),
		tries(list("/", 1, 2)), tries(raw("/a/%c3%a9")), tries(syncs()), remounts,
	}
	for _, a := range steps {
		for _, b := range steps {
			for enc := range encodings {
				fresh(t, 24, enc).run(t, tries(makes("/a", true)), a, b)
			}
			for _, c := range steps {
				fresh(t, 24, api.HFS).run(t, tries(makes("/a", true)), a, b, c)
			}
		}
	}
}

// names are what is put at the ends of paths: faces, and such as are none.
func names(enc int) []string {
	l := []string{"a", "b", "c", "d", "x", "%61", "a.", "caf\u00e9", "\u20ac", "caf%e9", "e\u0301", "\u0301", "..", "", ".", face90, "%~00000000-1", letters(255), letters(256), strings.Repeat("%2a", 85)}
	for _, x := range shownIn(enc) {
		l = append(l, x.face, x.face)
	}
	return l
}

// raws are what is planted.
func raws(enc int) []string {
	l := []string{"a", "b", "c", "\u00e9", "e\u0301", "\xff", "", ".", "a/b", letters(256), letters(255), stars(86), stars(255)}
	l = append(l, alike()...)
	for _, x := range shownIn(enc) {
		l = append(l, x.raw)
	}
	for _, x := range tellings() {
		l = append(l, x.raw)
	}
	return l
}

// drawnPath goes down by faces for as long as it may, and then perhaps to
// somewhere else.
func (r *ruled) drawnPath(draw func(below int) int, end []string) string {
	path, dir := "", 0
	for range draw(5) {
		l := r.dirs[dir]
		if len(l) == 0 {
			break
		}
		e := l[draw(len(l))]
		path, dir = path+"/"+faceOf(r.enc, e), e.Node
	}
	if draw(2) == 0 {
		path += "/" + end[draw(len(end))]
	}
	if draw(40) == 0 {
		path += deep(draw(18), "d")
	}
	if path == "" {
		return "/"
	}
	return path
}

// drawnCall hangs on what is there.
func (r *ruled) drawnCall(draw func(below int) int) call {
	end := names(r.enc)
	path := r.drawnPath(draw, end)
	switch draw(12) {
	case 0:
		return lookup(path)
	case 1:
		return raw(path)
	case 2:
		return list(path, int64(draw(60)-1), draw(68)-1)
	case 3, 4, 5:
		return makes(path, draw(3) > 0)
	case 6, 7:
		return removes(path, draw(2) == 0)
	case 8, 9:
		return renames(path, r.drawnPath(draw, end))
	}
	l := raws(r.enc)
	dirs := r.drawnPath(draw, []string{"a"})
	return plants(dirs, l[draw(len(l))], draw(2) == 0)
}

// P1, P2, P17.1 to P17.3: long rows that are drawn, in each encoding, on devices
// of many sizes.
func TestDrawn(t *testing.T) {
	draw := drawer()
	came := map[string]int{}
	for round := range 270 {
		k := fresh(t, 6+draw([]int{10, 30, 300}[round%3]), round/3%encodings)
		for range 60 {
			c := k.m.drawnCall(draw)
			got := k.try(t, c)
			kind, _, _ := strings.Cut(c.what, "(")
			came[kind+" "+strconv.Itoa(int(got.err))]++
			switch draw(20) {
			case 0:
				k.remount(t)
			case 1:
				k.do(t, syncs())
			}
		}
		k.expectFaces(t)
		k.expectMounted(t)
	}
	for kind, errs := range map[string][]int{
		"Lookup": {0, 3, 4, 5, 8}, "Raw": {0, 1, 3, 5, 8}, "List": {0, 1, 3, 5, 8, 14}, "Make": {0, 1, 3, 4, 5, 6, 8, 11}, "Remove": {0, 1, 3, 5, 7, 8, 9, 11}, "Rename": {0, 1, 3, 5, 6, 8, 10, 11}, "Plant": {0, 1, 3, 5, 6, 8, 11},
	} {
		for _, err := range errs {
			if came[kind+" "+strconv.Itoa(err)] < 3 {
				t.Errorf("%s = %d came %d times", kind, err, came[kind+" "+strconv.Itoa(err)])
			}
		}
	}
}

// P1: rows about as many nodes as may be.
func TestDrawnCrowd(t *testing.T) {
	draw := drawer()
	came := map[api.Errno]int{}
	for enc := range encodings {
		k := crowded(t, enc)
		for range 120 {
			came[k.try(t, k.m.drawnCall(draw)).err]++
		}
		k.expectFaces(t)
		k.expectMounted(t)
	}
	if came[api.ErrMany] < 20 || came[api.OK] < 100 {
		t.Errorf("there came %v", came)
	}
}

// characters are those of an encoding, but reserved ones, in rows that a name
// has room for, ended by what isn't the last one's rule.
func characters(enc int) []string {
	var rows []string
	row := ""
	for r := rune(0x20); r < 0x3100; r++ {
		if _, ok := charset.Encode(enc, r); !ok || escape.Reserved(r) {
			continue
		}
		row += string(r)
		if len(row) > 150 {
			rows, row = append(rows, row+"."+"x"), ""
		}
	}
	for r := rune(0xff00); r < 0xffa0; r++ {
		if _, ok := charset.Encode(enc, r); ok {
			row += string(r)
		}
		if len(row) > 150 {
			rows, row = append(rows, row+" "+"x"), ""
		}
	}
	return append(rows, row+"x")
}

// P3: a text of an encoding's characters is presented as it is, and made as its
// bytes; on a disk of HFS that is asked of what is put together.
func TestTexts(t *testing.T) {
	for enc := range encodings {
		k := fresh(t, 100, enc)
		for n, text := range characters(enc) {
			bytes := ""
			if enc == api.HFS {
				apart := compose.Apart([]rune(strings.TrimLeft(text, "\u0300\u0301\u0302\u0303\u0304")))
				text, bytes = string(compose.Together(apart)), string(apart)
			} else {
				for _, r := range text {
					b, _ := charset.Encode(enc, r)
					bytes += b
				}
			}
			if len(bytes) > api.MaxRaw {
				t.Fatalf("%d: the row %d is too long", enc, n)
			}
			k.expect(t, makes("/"+text, false), answer{node: 1})
			k.expect(t, raw("/"+text), answer{text: bytes})
			k.expectNames(t, "/", text)
			k.do(t, removes("/"+text, false))
			k.expect(t, plants("/", bytes, false), answer{node: 1})
			k.expectNames(t, "/", text)
			k.do(t, removes("/"+text, false))
		}
	}
}

// reader goes through a directory by List, bit by bit.
type reader struct {
	path   string
	n      int
	at     int64
	steady map[int64]bool // of the beginning, those that were there ever since
	came   map[int64]int
}

func (k *disk) reader(path string, n int) *reader {
	r := &reader{path: path, n: n, steady: map[int64]bool{}, came: map[int64]int{}}
	dir, _, _ := k.m.Lookup(path)
	for _, e := range k.m.dirs[dir] {
		r.steady[e.Cookie] = true
	}
	return r
}

// saw leaves out of the steady ones what is gone.
func (r *reader) saw(k *disk) {
	dir, _, _ := k.m.Lookup(r.path)
	there := map[int64]bool{}
	for _, e := range k.m.dirs[dir] {
		there[e.Cookie] = true
	}
	for cookie := range r.steady {
		if !there[cookie] {
			delete(r.steady, cookie)
		}
	}
}

// bit tells how many came; each is told by what its face leads to.
func (r *reader) bit(t *testing.T, k *disk) int {
	t.Helper()
	r.saw(k)
	names, next, err := k.f.List(r.path, r.at, r.n)
	if err != api.OK {
		t.Fatalf("%d: List(%+q) = %d", k.enc, r.path, err)
	}
	dir, _, _ := k.f.Lookup(r.path)
	for _, name := range names {
		bytes, err := k.f.Raw(strings.TrimSuffix(r.path, "/") + "/" + name)
		e, _ := k.f.Tree().Find(dir, bytes)
		r.came[e.Cookie]++
		if err != api.OK || r.came[e.Cookie] > 1 {
			t.Fatalf("%d: %+q: %+q came %d times, %d", k.enc, r.path, name, r.came[e.Cookie], err)
		}
	}
	r.at = next
	return len(names)
}

// P5: of readers of all sizes, by turns, with whatever calls between.
func TestReaders(t *testing.T) {
	draw := drawer()
	steadiest := 0
	for round := range 36 {
		k := fresh(t, 1000, round%encodings)
		k.do(t, makes("/keep", true))
		for n := range 40 {
			k.do(t, makes("/keep/"+strconv.Itoa(n), false), plants("/", strconv.Itoa(n)+stars(90), false))
		}
		var readers []*reader
		for n := range 6 {
			readers = append(readers, k.reader([]string{"/", "/keep"}[n%2], 1+draw([]int{2, 9, 64}[n/2])))
		}
		for range 12 {
			for _, r := range readers {
				for range draw(3) {
					c := k.m.drawnCall(draw)
					if moved := k.m.clone(); c.on(moved).err == api.OK && moved.at(0, "keep") < 0 {
						continue
					}
					k.try(t, c)
				}
				r.bit(t, k)
			}
		}
		for _, r := range readers {
			for bits := 0; r.bit(t, k) > 0; bits++ {
				if bits > api.MaxNodes {
					t.Fatalf("%d: it doesn't end", k.enc)
				}
			}
			for cookie := range r.steady {
				if r.came[cookie] != 1 {
					t.Errorf("%d: %+q: the cookie %d came %d times", k.enc, r.path, cookie, r.came[cookie])
				}
			}
			steadiest = max(steadiest, len(r.steady))
		}
	}
	if steadiest < 20 {
		t.Errorf("at most %d were there all the while", steadiest)
	}
}
