package deed_test

import (
	"strings"
	"testing"

	"toponym/deed"
)

// P11.1: bytes that are cut off at any place, and what is left behind that.
func TestDecodeCut(t *testing.T) {
	expectNoDeed(t, "")
	for _, w := range table() {
		for at := range len(w.b) {
			expectNoDeed(t, w.b[:at])
			if at > 0 {
				expectRead(t, w.b[at:])
			}
		}
	}
}

// P11.1: a byte more, behind the others, ahead of them, and between them.
func TestDecodeMore(t *testing.T) {
	for _, w := range table() {
		for b := range 256 {
			more := string([]byte{byte(b)})
			expectNoDeed(t, w.b+more)
			for at := range min(len(w.b), 12) {
				expectRead(t, w.b[:at]+more+w.b[at:])
			}
		}
		for _, more := range []string{"\x00\x00", "\x00\x00\x00\x00", strings.Repeat("\x00", 11), strings.Repeat("a", 300), strings.Repeat("\x00", 100000)} {
			expectNoDeed(t, w.b+more)
		}
		for _, other := range table() {
			expectNoDeed(t, w.b+other.b)
		}
	}
}

// P11.1: any one byte that is another one; of the kind, of IsDir and of Short's
// first byte it is no deed's then, or another's.
func TestDecodeChanged(t *testing.T) {
	came := 0
	for _, w := range table() {
		for at := range len(w.b) {
			for b := range 256 {
				if expectRead(t, w.b[:at]+string([]byte{byte(b)})+w.b[at+1:]) {
					came++
				}
			}
		}
	}
	if came < 1000 {
		t.Errorf("%d have a deed", came)
	}
}

// P11.1: a kind that is none, whichever bytes come behind it.
func TestDecodeKinds(t *testing.T) {
	for k := range 256 {
		if k >= 1 && k <= 3 {
			continue
		}
		first := string([]byte{byte(k)})
		for n := range 20 {
			expectNoDeed(t, first+strings.Repeat("\x00", n))
		}
		for _, w := range table() {
			expectNoDeed(t, first+w.b[1:])
			expectNoDeed(t, first+w.b)
		}
		for _, end := range []string{"", "\x00", "\x01", "\x00\x00\x00\x00\x00", "\x00\x00\x00\x00\x00\x00\x00"} {
			expectNoDeed(t, first+"\x00\x00\x01a"+end)
		}
	}
}

// P11.1: IsDir's byte is 0 or 1.
func TestDecodeIsDir(t *testing.T) {
	for b := range 256 {
		is := string([]byte{byte(b)})
		link, unlink := "\x01\x00\x07\x01a"+is+"\x00\x00\x00\x05", "\x02\x00\x07\x01a"+is
		if b > 1 {
			expectNoDeed(t, link)
			expectNoDeed(t, unlink)
			continue
		}
		expectDeed(t, link, aLink(7, "a", b == 1, 5))
		expectDeed(t, unlink, anUnlink(7, "a", b == 1))
	}
}

// P11.1: a name's length that is any but that of the name: no byte tells more
// than may be, so that what is left is too short, or too long.
func TestDecodeLengths(t *testing.T) {
	for _, size := range []int{0, 1, 2, 3, 100, 254, 255} {
		name := strings.Repeat("\x80", size)
		for n := range 256 {
			told := string([]byte{byte(n)}) + name
			link, unlink := "\x01\x00\x00"+told+"\x00\x00\x00\x00\x00", "\x02\x00\x00"+told+"\x00"
			first := "\x03\x00\x00" + told + "\x00\x00\x01a\x00\x00\x00\x00"
			second := "\x03\x00\x00\x01a\x00\x00" + told + "\x00\x00\x00\x00"
			if n == size {
				expectDeed(t, link, aLink(0, name, false, 0))
				expectDeed(t, unlink, anUnlink(0, name, false))
				expectDeed(t, first, aMove(0, name, 0, "a", 0))
				expectDeed(t, second, aMove(0, "a", 0, name, 0))
				continue
			}
			expectNoDeed(t, link)
			expectNoDeed(t, unlink)
			expectNoDeed(t, second)
			expectRead(t, first)
		}
	}
}

// P11.1: a name that goes past the end, by one byte or more.
func TestDecodePastEnd(t *testing.T) {
	for n := 1; n < 256; n++ {
		for _, ahead := range []string{"\x01\x00\x00", "\x02\x00\x00", "\x03\x00\x00", "\x03\x00\x00\x00\x00\x00", "\x03\x00\x00\x01a\x00\x00"} {
			b := ahead + string([]byte{byte(n)})
			for _, rest := range []string{"", strings.Repeat("a", n-1), strings.Repeat("a", n), strings.Repeat("\x00", n)} {
				expectNoDeed(t, b+rest)
			}
		}
	}
}

// P11.1: Short's bytes at its bound, and above it.
func TestDecodeShorts(t *testing.T) {
	for _, w := range []struct {
		b     string
		short int
	}{
		{"\x00\x00\x00\x00", 0},
		{"\x00\x00\x00\x01", 1},
		{"\x00\x00\x00\xff", 255},
		{"\x00\x00\x01\x00", 256},
		{"\x00\x01\x00\x00", 65536},
		{"\x00\x0f\x00\x00", 983040},
		{"\x00\x0f\x42\x3f", 999999},
		{"\x00\x0f\x42\x40", 1000000},
		{"\x00\x0f\x42\x41", -1},
		{"\x00\x0f\x43\x00", -1},
		{"\x00\x0f\xff\xff", -1},
		{"\x00\x10\x00\x00", -1},
		{"\x00\x10\x42\x40", -1},
		{"\x00\xff\xff\xff", -1},
		{"\x01\x00\x00\x00", -1},
		{"\x01\x0f\x42\x40", -1},
		{"\x40\x42\x0f\x00", -1},
		{"\x7f\xff\xff\xff", -1},
		{"\x80\x00\x00\x00", -1},
		{"\x80\x00\x00\x01", -1},
		{"\xff\xff\xff\xff", -1},
	} {
		link, move := "\x01\x00\x02\x01a\x00"+w.b, "\x03\x00\x02\x01a\x00\x04\x01b"+w.b
		if w.short < 0 {
			expectNoDeed(t, link)
			expectNoDeed(t, move)
			continue
		}
		expectDeed(t, link, aLink(2, "a", false, w.short))
		expectDeed(t, move, aMove(2, "a", 4, "b", w.short))
	}
}

// P11.1: numbers of all two bytes.
func TestDecodeNodes(t *testing.T) {
	for n := range 65536 {
		b := string([]byte{byte(n >> 8), byte(n)})
		expectDeed(t, "\x01"+b+"\x01a\x01\x00\x00\x00\x00", aLink(n, "a", true, 0))
		expectDeed(t, "\x02"+b+"\x00\x00", anUnlink(n, "", false))
		expectDeed(t, "\x03"+b+"\x00\x00\x03\x01b\x00\x00\x00\x01", aMove(n, "", 3, "b", 1))
		expectDeed(t, "\x03\x00\x03\x01a"+b+"\x01b\x00\x00\x00\x00", aMove(3, "a", n, "b", 0))
	}
}

// P11.1: of a deed's kind, what another kind's bytes are.
func TestDecodeOtherKind(t *testing.T) {
	for _, w := range table() {
		for k := range 5 {
			expectRead(t, string([]byte{byte(k)})+w.b[1:])
		}
	}
	expectNoDeed(t, "\x02\x00\x00\x01a\x00\x00\x00\x00\x00")
	expectNoDeed(t, "\x01\x00\x00\x01a\x00")
	expectNoDeed(t, "\x03\x00\x00\x01a\x00\x00\x00\x00\x00")
	expectNoDeed(t, "\x03\x00\x00\x01a\x00\x00\x00\x00\x00\x00\x00\x00")
	expectDeed(t, "\x03\x00\x00\x01a\x00\x00\x00\x00\x00\x00\x00", aMove(0, "a", 0, "", 0))
}

// few are the bytes that all short texts are made of, behind their kind.
const few = "\x00\x01\x02"

// fewTexts are all of so many of the few bytes, at most.
func fewTexts(most int) []string {
	l := []string{""}
	for from := 0; most > 0; most-- {
		to := len(l)
		for _, s := range l[from:to] {
			for at := range len(few) {
				l = append(l, s+few[at:at+1])
			}
		}
		from = to
	}
	return l
}

// fewDeeds are all whose bytes behind the kind are of the few, where there are
// no more than so many: each by its bytes, which come of the deed.
func fewDeeds(most int) map[string]deed.Deed {
	var nodes, shorts []int
	for n := range 27 {
		if n < 9 {
			nodes = append(nodes, n/3<<8|n%3)
		}
		shorts = append(shorts, n/9<<16|n/3%3<<8|n%3)
	}
	all := map[string]deed.Deed{}
	add := func(d deed.Deed) {
		if b, _ := ruledEncode(d); len(b) <= most {
			all[b] = d
		}
	}
	names := fewTexts(2)
	for _, dir := range nodes {
		for _, name := range names {
			add(anUnlink(dir, name, false))
			add(anUnlink(dir, name, true))
			for _, short := range shorts {
				add(aLink(dir, name, false, short))
				add(aLink(dir, name, true, short))
				for _, to := range nodes {
					for _, as := range names {
						add(aMove(dir, name, to, as, short))
					}
				}
			}
		}
	}
	return all
}

// P11.1, P11.3: all texts of up to twelve bytes of a few: those that a deed has,
// and, of all others, that no deed has them.
func TestDecodeFew(t *testing.T) {
	const most = 12
	ds := fewDeeds(most)
	came := 0
	for _, rest := range fewTexts(most - 1) {
		for _, kind := range []string{"\x00", "\x01", "\x02", "\x03", "\x04"} {
			b := kind + rest
			d, is := ds[b]
			if !is {
				expectNoDeed(t, b)
				continue
			}
			came++
			expectDeed(t, b, d)
			expectBytes(t, d, b)
		}
		if t.Failed() {
			t.FailNow()
		}
	}
	if came != len(ds) {
		t.Errorf("%d texts have a deed, of %d", came, len(ds))
	}
}

// P11.1: all texts of up to two bytes, and of three of which the first is a
// kind: no deed has as few.
func TestDecodeTiny(t *testing.T) {
	for a := range 256 {
		expectNoDeed(t, string([]byte{byte(a)}))
		for b := range 256 {
			expectNoDeed(t, string([]byte{byte(a), byte(b)}))
			for kind := range byte(4) {
				expectNoDeed(t, string([]byte{kind, byte(a), byte(b)}))
			}
		}
	}
}

// P11.1: of drawn bytes, most of them a deed's with a few changed.
func TestDecodeDrawn(t *testing.T) {
	draw := drawer()
	came := 0
	for range 200000 {
		b := ""
		for b == "" {
			b, _ = ruledEncode(drawn(draw))
		}
		for range draw(3) {
			at := draw(len(b) + 1)
			by := string([]byte{byte([]int{draw(4), draw(256)}[draw(2)])})
			switch {
			case draw(3) == 0:
				b = b[:at] + by + b[at:]
			case at == len(b):
			case draw(2) == 0:
				b = b[:at] + b[at+1:]
			default:
				b = b[:at] + by + b[at+1:]
			}
		}
		if expectRead(t, b) {
			came++
		}
	}
	if came < 50000 || came > 190000 {
		t.Errorf("%d have a deed", came)
	}
}
