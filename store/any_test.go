package store_test

import (
	"slices"
	"strings"
	"testing"

	"toponym/api"
	"toponym/deed"
	"toponym/image"
	"toponym/sector"
	"toponym/store"
	"toponym/tree"
)

// drawnSector is one of those that a store may have, mostly.
func drawnSector(draw func(below int) int) string {
	switch draw(12) {
	case 0:
		return noughts()
	case 1:
		return mark(draw(200))
	case 2:
		return head(uint64(draw(5)))
	case 3:
		return head(1<<63 - uint64(draw(3)))
	case 4:
		return framed(draw(200), strings.Repeat("\x01", draw(63)))
	case 5:
		return framed(14, rootAlone[:draw(15)])
	case 6:
		return framed(14, rootAlone)
	case 7:
		return frames(image.Encode(behind(aLink(0, "a", true, 0))))[0]
	case 8:
		l := frames(image.Encode(behind(sample()...)))
		return l[draw(len(l))]
	case 9:
		l := frames(written(aLink(0, named(draw(3), 70), true, 0)))
		return l[draw(len(l))]
	}
	b, err := deed.Encode(drawnDeed(draw, behind(sample()[:draw(5)]...)))
	if err != api.OK {
		return head(6)
	}
	return frames(b)[0]
}

// whole makes the tree once more of what it tells.
func whole(tr *tree.Tree) bool {
	dirs := map[int][]api.Entry{}
	for _, dir := range tr.Dirs() {
		l, err := tr.List(dir)
		if err != api.OK {
			return false
		}
		dirs[dir] = l
	}
	again, err := tree.Make(tr.Cookie(), dirs)
	return tr.Cookie() < 1 || err == api.OK && tree.Same(again, tr)
}

// answers holds a Mount against the chapter said over again, and goes on; it
// tells whether there is a store.
func answers(t *testing.T, sectors []string) bool {
	t.Helper()
	d, e := with(t, sectors), with(t, sectors)
	s, err := store.Mount(d)
	r, want := ruledMount(e)
	expect(t, "Mount", err, want)
	if (s == nil) != (err != api.OK) {
		t.Errorf("Mount = a store: %t, %d", s != nil, err)
	}
	if !slices.Equal(sectorsOf(d), sectorsOf(e)) || d.Pending() != 0 {
		t.Error("the devices differ")
	}
	if s == nil || r == nil {
		return false
	}
	if !whole(s.Tree()) {
		t.Errorf("the tree isn't whole: % x", image.Encode(s.Tree()))
	}
	expectImage(t, s, r.v.Room(), image.Encode(r.tree()))
	expectImage(t, mount(t, d), s.Room(), image.Encode(s.Tree()))
	for n := range 6 {
		one := aLink(0, named(n, 2+n*20), true, n)
		n, err := s.Do(one)
		m, want := r.do(one)
		if n != m || err != want {
			t.Errorf("Do(%#v) = %d, %d; want %d, %d", one, n, err, m, want)
		}
	}
	expectImage(t, mount(t, d), s.Room(), image.Encode(s.Tree()))
	return true
}

// R1, P13.1: no device makes Mount do anything but answer, whatever its sectors
// hold.
func TestAnyDevice(t *testing.T) {
	draw := drawer()
	came := 0
	for n := range 30000 {
		sectors := make([]string, draw(16))
		for at := range sectors {
			sectors[at] = drawnSector(draw)
		}
		if len(sectors) >= 4 && n%2 == 0 {
			sectors[len(sectors)/2*draw(2)] = head(7)
			sectors[1], sectors[len(sectors)/2+1] = frames(rootAlone)[0], frames(rootAlone)[0]
		}
		if answers(t, sectors) {
			came++
		}
		if t.Failed() {
			t.Fatalf("% x", sectors)
		}
	}
	if came < 2000 {
		t.Errorf("only %d came", came)
	}
}

// R1, P13.1: sectors of whatever bytes behind heads that are whole.
func TestAnyBytes(t *testing.T) {
	draw := drawer()
	for range 5000 {
		sectors := make([]string, 4+draw(9))
		for at := range sectors {
			b := make([]byte, api.Sector)
			for i := range b {
				b[i] = byte(draw(256))
			}
			b[0], b[1] = byte(draw(2)), byte(draw(256))
			sectors[at] = string(b)
		}
		sectors[0] = head(uint64(1 + draw(2)))
		sectors[len(sectors)/2] = head(1)
		answers(t, sectors)
		if t.Failed() {
			t.Fatalf("% x", sectors)
		}
	}
}

// R1, P13.1: each byte of a store's sectors, changed.
func TestChangedByte(t *testing.T) {
	sectors := spread(18, of(4, image.Encode(behind(sample()[:3]...)), written(aLink(1, "caf\xe9", true, 3)), written(aMove(0, "b", 1, named(1, 70), 0)), written(anUnlink(0, "c", true))), of(3, rootAlone))
	came, none := 0, 0
	for at, b := range sectors[:9] {
		for i := range b {
			for _, to := range []byte{b[i] ^ 1, b[i] ^ 2, b[i] ^ 0x80, b[i] + 1, b[i] - 1, 0, 0xff, 0x2f} {
				l := slices.Clone(sectors)
				l[at] = b[:i] + string([]byte{to}) + b[i+1:]
				if answers(t, l) {
					came++
				} else {
					none++
				}
				if t.Failed() {
					t.Fatalf("the byte %d of the sector %d is %d", i, at, to)
				}
			}
		}
	}
	if came < 1000 || none < 100 {
		t.Errorf("%d came, %d didn't", came, none)
	}
}

// R1, P13.1: each sector of a store taken away, doubled, or put in another's
// place.
func TestChangedSectors(t *testing.T) {
	sectors := spread(20, of(4, append([]string{image.Encode(behind(sample()...))}, allWritten(goods())...)...), of(5, image.Encode(behind(sample()[:2]...)), written(aLink(1, named(1, 120), false, 0))))
	for from := range sectors {
		for to := range sectors {
			l := slices.Clone(sectors)
			l[to] = l[from]
			answers(t, l)
			l[from] = noughts()
			answers(t, l)
			l[from] = sectors[to]
			answers(t, l)
			if t.Failed() {
				t.Fatalf("%d in the place of %d", from, to)
			}
		}
		answers(t, sectors[:from])
		answers(t, sectors[from:])
	}
}

// R1: no deed makes Do do anything but answer.
func TestAnyDeed(t *testing.T) {
	draw := drawer()
	numbers := []int{-1 << 63, -1, 0, 1, 2, 3, 200, 201, 65535, 65536, 1000000, 1000001, 1<<63 - 1}
	names := []string{"", "a", "b", ".", "..", "a/b", "\x00", "\xff", strings.Repeat("n", 255), strings.Repeat("n", 256), strings.Repeat("n", 70000)}
	d, s := started(t, 40, sample()...)
	for range 3000 {
		one := aLink(numbers[draw(len(numbers))], names[draw(len(names))], draw(2) == 0, numbers[draw(len(numbers))])
		one.Kind = []int{1, 2, 3, 1, 2, 3, 0, 4, -1, 1 << 40}[draw(10)]
		if draw(2) == 0 {
			one.Short = 0
		}
		if one.Kind == 3 || draw(9) == 0 {
			one.To, one.As, one.IsDir = numbers[draw(len(numbers))], names[draw(len(names))], draw(9) == 0
		}
		was := image.Encode(s.Tree())
		if n, err := s.Do(one); err != api.OK && (n != 0 || image.Encode(s.Tree()) != was) {
			t.Errorf("Do(%#v) = %d, %d, and the tree has changed", one, n, err)
		}
	}
	expectMounted(t, d, s.Room(), s.Tree())
	for size := range 6 {
		d := sector.New(size)
		store.Format(d)
		if s, err := store.Mount(d); (err == api.OK) != (size >= 4) || (s == nil) != (size < 4) {
			t.Errorf("%d sectors: Mount = %d", size, err)
		}
	}
}
