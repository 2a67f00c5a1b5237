package deed_test

import (
	"math"
	"strings"
	"testing"

	"toponym/api"
	"toponym/deed"
)

// firsts are a deed of each kind in which nothing is zero that it has.
func firsts() []deed.Deed {
	return []deed.Deed{
		aLink(1, "name", true, 2),
		anUnlink(1, "name", true),
		aMove(1, "name", 3, "as", 2),
	}
}

// badNodes are out of the bounds, some of them in these by their lower bits.
func badNodes() []int {
	return []int{
		-1, -2, -255, -256, -65535, -65536, -65537, math.MinInt32, math.MinInt32 + 1, -1 << 32, -1<<32 + 1, math.MinInt, math.MinInt + 1,
		65536, 65537, 131071, 131072, 1 << 24, math.MaxInt32, 1 << 32, 1<<32 + 1, math.MaxInt - 1, math.MaxInt,
	}
}

func goodNodes() []int {
	return []int{0, 1, 2, 127, 128, 199, 200, 201, 255, 256, 257, 32767, 32768, 65280, 65534, 65535}
}

func badShorts() []int {
	return []int{
		-1, -2, -999999, -1000000, -1000001, math.MinInt32, math.MinInt32 + 1, -1 << 32, -1<<32 + 1, math.MinInt, math.MinInt + 1,
		1000001, 1000002, 1 << 20, 1 << 24, math.MaxInt32, math.MaxUint32, 1 << 32, 1<<32 + 1, 1<<32 + 1000000, math.MaxInt - 1, math.MaxInt,
	}
}

func goodShorts() []int {
	return []int{0, 1, 2, 127, 128, 255, 256, 257, 65535, 65536, 65537, 1 << 19, 983040, 999999, 1000000}
}

// badNames have more bytes than may be, some of them as few as may be by the
// lower bits of how many they are.
func badNames() []string {
	l := []string{strings.Repeat("\xc3\xa9", 128)}
	for _, size := range []int{256, 257, 258, 300, 510, 511, 512, 513, 767, 65535, 65536, 65537} {
		l = append(l, strings.Repeat("a", size))
	}
	return l
}

// goodNames aren't asked whether a disk may have them.
func goodNames() []string {
	l := []string{"", "a", "\x00", "\x01", "\xff", "/", ".", "..", "a/b", "a\x00", "\x00a", "%", "caf\xe9", "\x01\x00\x00"}
	for _, size := range []int{2, 127, 128, 200, 254, 255} {
		l = append(l, strings.Repeat("a", size), strings.Repeat("\x00", size), strings.Repeat("\xff", size))
	}
	return l
}

// badKinds are like a kind by their lower bits, some of them.
func badKinds() []int {
	return []int{
		0, 4, 5, 6, 7, 8, 16, 97, 127, 128, 254, 255, 256, 257, 258, 259, 260, 65535, 65536, 65537, 1 << 24, 1<<24 + 1, math.MaxInt32,
		1 << 32, 1<<32 + 1, 1<<32 + 2, 1<<32 + 3, math.MaxInt - 1, math.MaxInt,
		-1, -2, -3, -4, -127, -128, -253, -254, -255, -256, -257, -65535, math.MinInt32, math.MinInt32 + 1, -1<<32 + 1, math.MinInt, math.MinInt + 1, math.MinInt + 3,
	}
}

// P11.1: numbers at and beyond their bounds.
func TestEncodeNumbers(t *testing.T) {
	for _, d := range firsts() {
		for _, n := range badNodes() {
			e := d
			e.Dir = n
			expectNoBytes(t, e)
			e = d
			e.To = n
			expectNoBytes(t, e)
		}
		for _, n := range badShorts() {
			e := d
			e.Short = n
			expectNoBytes(t, e)
		}
		for _, n := range goodNodes() {
			d.Dir = n
			expectRuled(t, d)
			if _, err := deed.Encode(d); err != api.OK {
				t.Errorf("Encode(%#v) = %d", d, err)
			}
		}
	}
	for _, n := range goodNodes() {
		d := aMove(1, "a", n, "b", 0)
		expectBytes(t, d, "\x03\x00\x01\x01a"+string([]byte{byte(n >> 8), byte(n)})+"\x01b\x00\x00\x00\x00")
	}
	for _, n := range goodShorts() {
		b := string([]byte{byte(n >> 24), byte(n >> 16), byte(n >> 8), byte(n)})
		expectBytes(t, aLink(1, "a", true, n), "\x01\x00\x01\x01a\x01"+b)
		expectBytes(t, aMove(1, "a", 0, "b", n), "\x03\x00\x01\x01a\x00\x00\x01b"+b)
	}
}

// P11.1: names of no bytes up to as many as may be, and of more, whatever bytes
// they are.
func TestEncodeNames(t *testing.T) {
	for _, name := range badNames() {
		for _, d := range firsts() {
			e := d
			e.Name = name
			expectNoBytes(t, e)
			e = d
			e.As = name
			expectNoBytes(t, e)
		}
	}
	for _, name := range goodNames() {
		b := string([]byte{byte(len(name))}) + name
		expectBytes(t, aLink(1, name, true, 0), "\x01\x00\x01"+b+"\x01\x00\x00\x00\x00")
		expectBytes(t, anUnlink(1, name, true), "\x02\x00\x01"+b+"\x01")
		for _, as := range goodNames() {
			c := string([]byte{byte(len(as))}) + as
			expectBytes(t, aMove(1, name, 2, as, 3), "\x03\x00\x01"+b+"\x00\x02"+c+"\x00\x00\x00\x03")
		}
	}
}

// P11.1: kinds that are none, whatever else is there.
func TestEncodeKinds(t *testing.T) {
	for _, k := range badKinds() {
		for _, d := range append(firsts(), deed.Deed{}, deed.Deed{Name: "a"}, deed.Deed{As: "a"}) {
			d.Kind = k
			expectNoBytes(t, d)
		}
	}
}

// P11.1: what a deed of the kind hasn't is zero, or it isn't so.
func TestEncodeNotSo(t *testing.T) {
	var nots []deed.Deed
	add := func(d deed.Deed, changes ...func(d *deed.Deed)) {
		for _, change := range changes {
			e := d
			change(&e)
			nots = append(nots, e)
		}
	}
	toOne := func(d *deed.Deed) { d.To = 1 }
	toLast := func(d *deed.Deed) { d.To = 65535 }
	asName := func(d *deed.Deed) { d.As = "a" }
	asNought := func(d *deed.Deed) { d.As = "\x00" }
	asOwn := func(d *deed.Deed) { d.To, d.As = d.Dir, d.Name }
	isDir := func(d *deed.Deed) { d.IsDir = true }
	shortOne := func(d *deed.Deed) { d.Short = 1 }
	shortLast := func(d *deed.Deed) { d.Short = 1000000 }
	for _, name := range []string{"a", "", strings.Repeat("a", 255)} {
		add(aLink(1, name, false, 0), toOne, toLast, asName, asNought, asOwn)
		add(aLink(0, name, true, 7), toOne, toLast, asName, asNought)
		add(anUnlink(1, name, false), toOne, toLast, asName, asNought, asOwn, shortOne, shortLast)
		add(anUnlink(0, name, true), toOne, toLast, asName, asNought, shortOne, shortLast)
		add(aMove(1, name, 2, "a", 0), isDir)
		add(aMove(0, name, 0, "", 3), isDir)
	}
	for _, d := range nots {
		expectNoBytes(t, d)
	}
}

// P11.1: all choices of each field's edges, of what is a kind's and what isn't.
func TestEncodeChoices(t *testing.T) {
	nodes := []int{-1, 0, 1, 65535, 65536}
	names := []string{"", "a", strings.Repeat("b", 255), strings.Repeat("c", 256)}
	shorts := []int{-1, 0, 1, 1000000, 1000001}
	var ds []deed.Deed
	for _, dir := range nodes {
		for _, to := range nodes {
			for _, short := range shorts {
				ds = append(ds, deed.Deed{Dir: dir, To: to, Short: short}, deed.Deed{Dir: dir, To: to, Short: short, IsDir: true})
			}
		}
	}
	came := 0
	for _, k := range []int{-1, 0, 1, 2, 3, 4, 257} {
		for _, d := range ds {
			for _, name := range names {
				for _, as := range names {
					d.Kind, d.Name, d.As = k, name, as
					expectRuled(t, d)
					if _, err := deed.Encode(d); err == api.OK {
						came++
					}
				}
			}
		}
	}
	if want := 3*3*2*3 + 3*3*2 + 3*3*3*3*3; came != want {
		t.Errorf("%d deeds have bytes; want %d", came, want)
	}
}

// P11.1: bytes are as many as the chapter lists, and no more.
func TestEncodeSizes(t *testing.T) {
	for name := range api.MaxRaw + 1 {
		n := strings.Repeat("n", name)
		expectSize := func(d deed.Deed, want int) {
			t.Helper()
			if b, err := deed.Encode(d); len(b) != want || err != api.OK {
				t.Errorf("Encode(%#v) = %d bytes, %d; want %d", d, len(b), err, want)
			}
		}
		expectSize(aLink(1, n, true, 1), 9+name)
		expectSize(anUnlink(1, n, true), 5+name)
		for _, as := range []int{0, 1, name, 255} {
			expectSize(aMove(1, n, 2, strings.Repeat("a", as), 1), 11+name+as)
		}
	}
}
