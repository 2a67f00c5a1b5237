package image_test

import (
	"math"
	"slices"
	"strconv"
	"strings"
	"testing"

	"toponym/api"
	"toponym/image"
	"toponym/tree"
)

// P12.1: images that are cut off at any place, and what is left behind that.
func TestDecodeCut(t *testing.T) {
	expectNoTree(t, "")
	for _, tr := range trees() {
		b := image.Encode(tr)
		stride := 1 + len(b)/2000
		for at := 0; at < len(b); at += stride {
			expectNoTree(t, b[:at])
			if at > 0 {
				expectRead(t, b[at:])
			}
		}
		expectNoTree(t, b[:len(b)-1])
	}
}

// P12.1: a byte more, or many, behind the others, ahead of them, and between
// them.
func TestDecodeMore(t *testing.T) {
	for _, w := range table() {
		for n := range uint64(256) {
			expectNoTree(t, w.bytes+number(n, 1))
			for at := range min(len(w.bytes), 40) {
				expectRead(t, w.bytes[:at]+number(n, 1)+w.bytes[at:])
			}
		}
		for _, more := range []string{"\x00\x00", "\x00\x01\x00\x00", strings.Repeat("\x00", 16), part{"x", 9, 0, 1, 0}.bytes(), strings.Repeat("\x00", 70000)} {
			expectNoTree(t, w.bytes+more)
		}
		for _, other := range table() {
			expectNoTree(t, w.bytes+other.bytes)
		}
	}
}

// P12.1: any one byte that is another one.
func TestDecodeChanged(t *testing.T) {
	came := 0
	for _, w := range table() {
		for at := range len(w.bytes) {
			for n := range uint64(256) {
				b := w.bytes[:at] + number(n, 1) + w.bytes[at+1:]
				if expectRead(t, b) && b != w.bytes {
					came++
				}
			}
		}
	}
	if came < 10000 {
		t.Errorf("%d have a tree", came)
	}
}

// P12.1: likewise, of great trees' images.
func TestDecodeGreatChanged(t *testing.T) {
	for _, tr := range []*tree.Tree{wide(false, strconv.Itoa), deep(strconv.Itoa), spread(padded)} {
		b := image.Encode(tr)
		for at := 0; at < len(b); at += 1 + len(b)/150 {
			for _, by := range []byte{0, 1, b[at] + 1, b[at] ^ 0x80, 0xff} {
				expectRead(t, b[:at]+number(uint64(by), 1)+b[at+1:])
			}
		}
	}
}

// expectChanged changes the image of a sample by itself, and then asks for what
// the chapter says, and whether that is a tree.
func expectChanged(t *testing.T, what string, isTree bool, change func(l *loose)) {
	t.Helper()
	l := looseOf(sample())
	change(&l)
	if expectRead(t, l.bytes()) != isTree {
		t.Errorf("%s: the chapter says %t", what, !isTree)
	}
}

// P12.1: directories rise, and stand once, even where they have the same
// entries, or none.
func TestDecodeDirectories(t *testing.T) {
	expectChanged(t, "as it is", true, func(l *loose) {})
	for i := range 5 {
		for j := range i {
			expectChanged(t, "two that don't rise", false, func(l *loose) { l.blocks[i], l.blocks[j] = l.blocks[j], l.blocks[i] })
		}
		expectChanged(t, "one that is missing", false, func(l *loose) { l.blocks = slices.Delete(l.blocks, i, i+1) })
		for at := range 6 {
			expectChanged(t, "one that stands twice", false, func(l *loose) { l.blocks = slices.Insert(l.blocks, at, l.blocks[i]) })
			expectChanged(t, "one that stands again, empty", false, func(l *loose) {
				l.blocks = slices.Insert(l.blocks, at, block{node: l.blocks[i].node})
			})
		}
		for _, n := range []uint64{2, 4, 7, 8, 9, 10, 199, 200, 201, 202, 255, 256, 257, 32768, 65280, 65535} {
			expectChanged(t, "another number", false, func(l *loose) { l.blocks[i].node = n })
			expectChanged(t, "one more", false, func(l *loose) {
				at := 0
				for at < 5 && l.blocks[at].node < n {
					at++
				}
				l.blocks = slices.Insert(l.blocks, at, block{node: n})
			})
		}
	}
	expectChanged(t, "none", false, func(l *loose) { l.blocks = nil })
	expectNoTree(t, loose{cookie: 1}.bytes())
	expectNoTree(t, loose{cookie: 1, blocks: []block{{node: 1}}}.bytes())
	expectNoTree(t, loose{cookie: 1, blocks: []block{{}, {}}}.bytes())
	expectNoTree(t, loose{cookie: 4, blocks: []block{
		{},
		{node: 1, parts: []part{{"a", 2, 1, 1, 0}}},
		{node: 2, parts: []part{{"a", 1, 1, 2, 0}}},
	}}.bytes())
}

// P12.1: counts tell how many there are, and no more, and no fewer.
func TestDecodeCounts(t *testing.T) {
	for _, more := range []int{-5, -4, -3, -2, -1, 0, 1, 2, 3, 10, 250, 251, 255, 256, 65000, 65530} {
		if more != 0 {
			expectChanged(t, "directories", false, func(l *loose) { l.more = more })
		}
		for i, entries := range []int{3, 2, 0, 2, 1} {
			if entries+more >= 0 && more != 0 {
				expectChanged(t, "entries", false, func(l *loose) { l.blocks[i].more = more })
			}
		}
	}
	for n := range uint64(65536) {
		if n != 1 {
			expectNoTree(t, number(1, 8)+number(n, 2)+"\x00\x00\x00\x00")
		}
		if n != 0 {
			expectNoTree(t, number(1, 8)+"\x00\x01\x00\x00"+number(n, 2))
		}
	}
}

// P12.1: whether a node is a directory is 0 or 1, and as it is.
func TestDecodeIsDir(t *testing.T) {
	for n := range uint64(256) {
		expectChanged(t, "of a directory", n == 1, func(l *loose) { l.blocks[0].parts[2].isDir = n })
		expectChanged(t, "of a file", n == 0, func(l *loose) { l.blocks[0].parts[1].isDir = n })
		one := loose{cookie: 2, blocks: []block{{parts: []part{{"a", 1, n, 1, 0}}}}}
		if expectRead(t, one.bytes()) != (n == 0) {
			t.Errorf("one by itself: %d", n)
		}
	}
}

// P12.1: nodes' numbers are those of layer 10, each once.
func TestDecodeNodes(t *testing.T) {
	for n := uint64(0); n < 65536; n += 1 + n/300 {
		isFree := n == 2 || n >= 9 && n <= api.MaxNodes
		expectChanged(t, "of a file", isFree, func(l *loose) { l.blocks[0].parts[1].node = n })
		expectChanged(t, "of a directory", n == 3, func(l *loose) { l.blocks[0].parts[2].node = n })
	}
	for _, n := range []uint64{256 + 2, 256 + 3, 256 + 9, 256 + 200, 32768 + 2, 32768 + 3, 65280 + 2, 65280 + 3, 65534, 65535} {
		expectChanged(t, "beyond, of a file", false, func(l *loose) { l.blocks[0].parts[1].node = n })
		expectChanged(t, "beyond, of a directory", false, func(l *loose) { l.blocks[0].parts[2].node = n })
	}
}

// P12.1: cookies rise, are below the next one, and stand once; none of them has
// its topmost bit.
func TestDecodeCookies(t *testing.T) {
	for _, w := range []struct {
		cookie uint64
		isTree bool
	}{
		{0, false}, {1, false}, {2, true}, {3, false}, {4, false}, {8, false}, {9, false}, {10, false}, {1 << 32, false},
		{1<<32 + 2, false}, {math.MaxInt64, false}, {1 << 63, false}, {1<<63 + 2, false}, {math.MaxUint64, false}, {math.MaxUint64 - 1, false},
	} {
		expectChanged(t, "between others", w.isTree, func(l *loose) { l.blocks[0].parts[1].cookie = w.cookie })
	}
	for _, w := range []struct {
		cookie, next uint64
		isTree       bool
	}{
		{8, 9, true}, {9, 9, false}, {9, 10, true}, {10, 10, false}, {255, 256, true}, {256, 256, false}, {0, 9, false}, {1, 9, false}, {7, 9, false},
		{8, math.MaxInt64, true}, {math.MaxInt64 - 1, math.MaxInt64, true}, {math.MaxInt64, math.MaxInt64, false},
		{8, 1 << 63, false}, {math.MaxInt64, 1 << 63, false}, {1 << 63, 1 << 63, false}, {1 << 63, 1<<63 + 1, false}, {1<<63 + 8, 9, false},
		{8, math.MaxUint64, false}, {math.MaxUint64 - 1, math.MaxUint64, false}, {math.MaxUint64, 9, false}, {math.MaxUint64, 0, false},
		{1<<32 + 8, 9, false}, {8, 1<<32 + 9, true}, {8, 1 << 32, true}, {8, 8, false}, {8, 1, false}, {8, 0, false},
	} {
		expectChanged(t, "the last one", w.isTree, func(l *loose) { l.blocks[4].parts[0].cookie, l.cookie = w.cookie, w.next })
	}
}

// P12.1: the next cookie of a root alone.
func TestDecodeNext(t *testing.T) {
	for _, next := range []uint64{1, 2, 127, 128, 255, 256, math.MaxInt32, math.MaxInt32 + 1, math.MaxUint32, 1 << 32, 1 << 62, math.MaxInt64 - 1, math.MaxInt64} {
		expectLike(t, decoded(t, loose{cookie: next, blocks: []block{{}}}.bytes()), made(int64(next), lists{0: nil}))
	}
	for _, next := range []uint64{0, 1 << 63, 1<<63 + 1, 1<<63 + 2, 1<<63 + 1<<62, math.MaxUint64 - 1, math.MaxUint64} {
		expectNoTree(t, loose{cookie: next, blocks: []block{{}}}.bytes())
	}
}

// P12.1: a tree whose last cookie was given has an image whose next one isn't
// from 1 on, so that no tree comes of it.
func TestDecodeLastCookie(t *testing.T) {
	tr := made(math.MaxInt64, lists{0: nil})
	link(tr, 0, "a", false, 0)
	b := image.Encode(tr)
	if want := (loose{1 << 63, 0, []block{{parts: []part{{"a", 1, 0, math.MaxInt64, 0}}}}}).bytes(); b != want {
		t.Errorf("Encode = % x; want % x", b, want)
	}
	expectNoTree(t, b)
}

// P12.1: shorts at their bound, and above it.
func TestDecodeShorts(t *testing.T) {
	for _, w := range []struct {
		short  uint64
		isTree bool
	}{
		{0, true}, {1, true}, {255, true}, {256, true}, {65536, true}, {999999, true}, {1000000, true},
		{1000001, false}, {1000002, false}, {1 << 20, false}, {1 << 24, false}, {1<<24 + 1, false},
		{math.MaxInt32, false}, {1 << 31, false}, {1<<31 + 1, false}, {math.MaxUint32 - 1, false}, {math.MaxUint32, false},
	} {
		expectChanged(t, "of a file", w.isTree, func(l *loose) { l.blocks[0].parts[1].short = w.short })
		expectChanged(t, "of a directory", w.isTree, func(l *loose) { l.blocks[1].parts[1].short = w.short })
	}
}

// P12.1: names that aren't good, and those that stand twice in a directory.
func TestDecodeNames(t *testing.T) {
	for _, w := range []struct {
		name   string
		isTree bool
	}{
		{"x", true}, {"\x01", true}, {"\xff", true}, {"...", true}, {" ", true}, {"%", true}, {"caf\xe9", true}, {strings.Repeat("x", 255), true},
		{strings.Repeat("\xff", 255), true}, {"", false}, {".", false}, {"..", false}, {"/", false}, {"\x00", false}, {"x/", false}, {"/x", false},
		{"x\x00", false}, {"\x00x", false}, {"x/x", false}, {strings.Repeat("x", 254) + "/", false}, {strings.Repeat("x", 254) + "\x00", false},
		{"a", false}, {"c", false}, {"b", true}, {"d", true}, {"aa", true}, {"A", true},
	} {
		expectChanged(t, "beside a and c", w.isTree, func(l *loose) { l.blocks[0].parts[1].name = w.name })
	}
	for n := range uint64(256) {
		name := number(n, 1)
		isTree := n != 0 && name != "/"
		expectChanged(t, "of one byte", isTree && name != ".", func(l *loose) { l.blocks[4].parts[0].name = name })
		expectChanged(t, "of two bytes", isTree, func(l *loose) { l.blocks[4].parts[0].name = "x" + name })
	}
}

// P12.1: a name's length that is any but that of the name.
func TestDecodeLengths(t *testing.T) {
	for _, size := range []int{1, 2, 3, 16, 17, 100, 254, 255} {
		p := part{strings.Repeat("x", size), 1, 0, 1, 0}.bytes()
		for n := range uint64(256) {
			b := number(2, 8) + "\x00\x01\x00\x00\x00\x01" + number(n, 1) + p[1:]
			if expectRead(t, b) != (n == uint64(size)) {
				t.Errorf("a name of %d bytes, and a length of %d", size, n)
			}
		}
	}
}

// expectNoGreat is of more bytes than are worth being told.
func expectNoGreat(t *testing.T, what, b string) {
	t.Helper()
	if tr, err := image.Decode(b); tr != nil || err != api.ErrForm {
		t.Errorf("Decode of %s, %d bytes = %t, %d; want none, %d", what, len(b), tr != nil, err, api.ErrForm)
	}
}

// P12.1, R1: bytes that tell more than there is, and more than there may be.
func TestDecodeMany(t *testing.T) {
	first := number(math.MaxInt64, 8) + "\xff\xff"
	for _, size := range []int{1000, api.MaxImage - 10, api.MaxImage - 9, api.MaxImage, 1 << 16, 1 << 20, 1 << 25} {
		for _, b := range []string{"\x00", "\x01", "\x02", "\x7f", "\xff", "\x00\x01", "\x00\x00\xff\xff", "\x00\xc8\xff\xff", "\x00\x00\x00\x01"} {
			many := strings.Repeat(b, size/len(b))
			expectNoGreat(t, "the same", many)
			expectNoGreat(t, "the same in an image", first+many)
			expectNoGreat(t, "the same in a directory", first+"\x00\x00\xff\xff"+many)
			expectNoGreat(t, "the same behind an image", image.Encode(sample())+many)
		}
	}
	for _, count := range []int{201, 202, 1000, 3000, 14000, 20000, 65535} {
		var dirs, entries, chain strings.Builder
		for n := range uint64(count) {
			dirs.WriteString(block{node: n}.bytes())
			p := part{strconv.FormatUint(n, 36), n + 1, 0, n + 1, 0}
			entries.WriteString(p.bytes())
			p.isDir = 1
			chain.WriteString(block{node: n, parts: []part{p}}.bytes())
		}
		next, told := number(uint64(count)+1, 8), number(uint64(count), 2)
		expectNoGreat(t, "directories", next+told+dirs.String())
		expectNoGreat(t, "entries", next+"\x00\x01\x00\x00"+told+entries.String())
		expectNoGreat(t, "directories in each other", next+told+chain.String())
		expectNoGreat(t, "directories in each other, the last one empty", next+number(uint64(count)+1, 2)+chain.String()+block{node: uint64(count)}.bytes())
	}
}

// P12.1: all texts of up to two bytes, and of fewer bytes than a root alone has.
func TestDecodeTiny(t *testing.T) {
	for n := range uint64(65536) {
		expectNoTree(t, number(n, 2))
	}
	for n := range uint64(256) {
		expectNoTree(t, number(n, 1))
		for size := range 14 {
			expectNoTree(t, strings.Repeat(number(n, 1), size))
			expectNoTree(t, strings.Repeat("\x00", max(size-1, 0))+number(n, 1))
			expectNoTree(t, (number(n, 8) + "\x00\x01\x00\x00")[:max(size-1, 0)])
		}
	}
}
