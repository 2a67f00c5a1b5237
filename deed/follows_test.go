package deed_test

import (
	"slices"
	"strings"
	"testing"

	"toponym/api"
	"toponym/deed"
)

// edges are deeds of each kind with all choices of their fields' edges.
func edges() []deed.Deed {
	nodes := []int{0, 1, 256, 65535}
	names := []string{"", "\x00", "\x01", "a", "ab", "\x01a", strings.Repeat("\x00", 5), strings.Repeat("\x00", 254), strings.Repeat("a", 255), strings.Repeat("\x00", 255)}
	shorts := []int{0, 1, 256, 1000000}
	var ds []deed.Deed
	for _, dir := range nodes {
		for _, name := range names {
			for _, isDir := range []bool{false, true} {
				ds = append(ds, anUnlink(dir, name, isDir))
				for _, short := range shorts {
					ds = append(ds, aLink(dir, name, isDir, short))
				}
			}
			for _, to := range nodes {
				for _, as := range names {
					for _, short := range shorts {
						ds = append(ds, aMove(dir, name, to, as, short))
					}
				}
			}
		}
	}
	return ds
}

// P11.3: what is encoded is decoded as it was.
func TestComesAgain(t *testing.T) {
	for _, d := range edges() {
		b, err := deed.Encode(d)
		if err != api.OK {
			t.Fatalf("Encode(%#v) = %d", d, err)
		}
		expectDeed(t, b, d)
	}
}

// P11.3: of all shorts, too.
func TestComesAgainShorts(t *testing.T) {
	for short := range 1000001 {
		l, _ := deed.Encode(aLink(1, "a", short%2 == 0, short))
		if d, err := deed.Decode(l); d != aLink(1, "a", short%2 == 0, short) || err != api.OK {
			t.Fatalf("of %d there came %#v, %d", short, d, err)
		}
		m, _ := deed.Encode(aMove(1, "", 2, "b", short))
		if d, err := deed.Decode(m); d != aMove(1, "", 2, "b", short) || err != api.OK {
			t.Fatalf("of %d there came %#v, %d", short, d, err)
		}
	}
}

// expectApart holds each deed's bytes against those that stand next, in order:
// among them there would be what they begin.
func expectApart(t *testing.T, ds []deed.Deed) {
	t.Helper()
	bs := make([]string, len(ds))
	for i, d := range ds {
		b, err := deed.Encode(d)
		if err != api.OK {
			t.Fatalf("Encode(%#v) = %d", d, err)
		}
		bs[i] = b
	}
	slices.Sort(bs)
	for i := 1; i < len(bs); i++ {
		if strings.HasPrefix(bs[i], bs[i-1]) {
			t.Errorf("% x begins as % x does", bs[i], bs[i-1])
		}
	}
}

// P11.1, P11.3: no deed's bytes are another one's, or begin with them.
func TestApart(t *testing.T) {
	expectApart(t, edges())
	var few []deed.Deed
	for _, d := range fewDeeds(12) {
		few = append(few, d)
	}
	expectApart(t, few)
	seen := map[deed.Deed]int{}
	var many []deed.Deed
	draw := drawer()
	for range 50000 {
		d := drawn(draw)
		if _, err := ruledEncode(d); err == api.OK && seen[d] == 0 {
			seen[d]++
			many = append(many, d)
		}
	}
	expectApart(t, many)
}

// P11.1: of bytes that are joined, each deed is found by what it begins with.
func TestJoined(t *testing.T) {
	joined := ""
	for _, w := range table() {
		joined += w.b
	}
	for _, w := range table() {
		found := 0
		for size := range len(joined) + 1 {
			if d, err := deed.Decode(joined[:size]); err == api.OK {
				expectBytes(t, d, joined[:size])
				expectBytes(t, w.d, joined[:size])
				found++
			}
		}
		if found != 1 {
			t.Errorf("%d of the beginnings have a deed", found)
		}
		joined = strings.TrimPrefix(joined, w.b)
	}
	if joined != "" {
		t.Errorf("% x is left", joined)
	}
}
