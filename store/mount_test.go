package store_test

import (
	"math"
	"slices"
	"strconv"
	"strings"
	"testing"

	"toponym/api"
	"toponym/deed"
	"toponym/image"
	"toponym/sector"
	"toponym/tree"
	"toponym/vault"
)

// stored are a device's sectors, whose vault has this image and these records.
func stored(size int, image string, records ...string) []string {
	return spread(size, of(1, slices.Insert(slices.Clone(records), 0, image)...), of(0))
}

// expectNone asks for what stands in the vault, too: that stays.
func expectNone(t *testing.T, sectors []string) {
	t.Helper()
	d := with(t, sectors)
	expectNoMount(t, d, api.ErrForm)
	expectSectors(t, d, sectors)
	expectPending(t, d, 0)
	expectNoMount(t, d, api.ErrForm)
}

// P13.1: what was never formatted, and what is too small.
func TestMountNoVault(t *testing.T) {
	for size := range 14 {
		want := api.ErrForm
		if size < 4 {
			want = api.ErrArg
		}
		for _, d := range []*sector.Device{sector.New(size), marked(t, size)} {
			l := sectorsOf(d)
			expectNoMount(t, d, want)
			expectSectors(t, d, l)
			expectPending(t, d, 0)
			d.Cut(0)
			expectNoMount(t, d, api.ErrLost)
		}
	}
	expectNoMount(t, sector.New(api.MaxSectors), api.ErrForm)
	expectNoMount(t, with(t, []string{head(1), frames(rootAlone)[0], head(2)}), api.ErrArg)
	expectNone(t, spread(9, of(0, rootAlone), of(0, rootAlone)))
	expectNone(t, spread(9, held{mark(1), frames(rootAlone)}, held{mark(2), frames(rootAlone)}))
}

// P13.1: where power is gone that is told, whatever else is wrong.
func TestMountLost(t *testing.T) {
	for _, sectors := range [][]string{
		nil,
		formatted(4),
		stored(12, rootAlone, written(aLink(0, "a", true, 0))),
		stored(12, "no tree's image"),
		stored(12, rootAlone, "no deed's record"),
		stored(12, rootAlone, written(anUnlink(0, "a", true))),
	} {
		d := with(t, sectors)
		d.Cut(0)
		for range 3 {
			expectNoMount(t, d, api.ErrLost)
		}
		expectPending(t, d, 0)
	}
}

// noTrees are images that are no tree's.
func noTrees() []string {
	whole := image.Encode(behind(sample()...))
	l := []string{
		"\x00",
		"no tree's image",
		strings.Repeat("\x00", 14),
		"\x00\x00\x00\x00\x00\x00\x00\x00\x00\x01\x00\x00\x00\x00",
		"\x80\x00\x00\x00\x00\x00\x00\x01\x00\x01\x00\x00\x00\x00",
		"\x00\x00\x00\x00\x00\x00\x00\x01\x00\x00",
		"\x00\x00\x00\x00\x00\x00\x00\x01\x00\x01\x00\x01\x00\x00",
		"\x00\x00\x00\x00\x00\x00\x00\x01\x00\x01\x00\x00\x00\x01",
		"\x00\x00\x00\x00\x00\x00\x00\x01\x00\x02\x00\x00\x00\x00\x00\x01\x00\x00",
		written(aLink(0, "a", true, 0)),
	}
	for _, b := range []string{rootAlone, whole} {
		for n := 1; n < len(b); n++ {
			l = append(l, b[:n])
		}
		l = append(l, b[1:], b+"\x00", b+"\x01", b+b, b+written(aLink(0, "n", true, 0)), "\x00"+b)
	}
	return l
}

// P13.1: images that are cut off, changed, or have more behind them, with
// records and without.
func TestMountNoTree(t *testing.T) {
	for _, b := range noTrees() {
		expectNone(t, stored(25, b))
		expectNone(t, stored(24, b, written(aLink(0, "n", true, 0))))
		expectNone(t, spread(24, of(6, rootAlone), of(7, b)))
		expectNone(t, spread(24, of(7, b), of(6, rootAlone)))
		d := with(t, spread(24, of(7, rootAlone), of(6, b)))
		expectMounted(t, d, 10, tree.New())
	}
}

// P13.1: an image of no bytes is none that stands, whatever is behind it.
func TestMountNoImage(t *testing.T) {
	for _, none := range [][]string{
		nil,
		{framed(0, rootAlone)},
		append([]string{noughts()}, frames(rootAlone)...),
		append([]string{framed(0, "")}, frames(written(aLink(0, "a", true, 0)))...),
		{framed(len(rootAlone)-1, rootAlone)},
		{framed(63, text62())},
	} {
		expectNone(t, spread(12, held{head(1), none}, of(0)))
		expectNone(t, spread(13, of(2, rootAlone), held{head(3), none}))
	}
}

func text62() string {
	return strings.Repeat("a", 62)
}

// P13.1: each byte of an image changed to each other one: the tree that has the
// image then, or none.
func TestMountChangedImage(t *testing.T) {
	b := image.Encode(behind(aLink(0, "a", true, 0), aLink(1, "b", false, 300)))
	came, none := 0, 0
	for at := range len(b) {
		for to := range 256 {
			changed := []byte(b)
			changed[at] = byte(to)
			sectors := stored(10, string(changed))
			want, err := image.Decode(string(changed))
			if err != api.OK {
				expectNone(t, sectors)
				none++
				continue
			}
			expectMounted(t, with(t, sectors), 3-len(frames(b))+1, want)
			came++
		}
	}
	if came < 500 || none < 5000 {
		t.Errorf("%d came, %d didn't", came, none)
	}
}

// noDeeds are records that are no deed's.
func noDeeds() []string {
	l := []string{
		"\x00",
		"a",
		rootAlone,
		"\x01\x00\x00\x01n\x02\x00\x00\x00\x00",
		"\x01\x00\x00\x01n\x00\x00\x0f\x42\x41",
		"\x01\x00\x00\x01n\x00\xff\xff\xff\xff",
		"\x00\x00\x00\x01n\x00\x00\x00\x00\x00",
		"\x04\x00\x00\x01n\x00\x00\x00\x00\x00",
		"\x02\x00\x00\x01b\xff",
		"\x02\x00\x00\x02b\x00",
		"\x03\x00\x00\x01b\x00\x00\x01n\x80\x00\x00\x00",
		strings.Repeat("n", 1000),
	}
	for _, d := range []deed.Deed{aLink(0, "n", true, 0), aLink(0, named(1, 80), true, 0), anUnlink(0, "b", false), aMove(0, "b", 3, "n", 1)} {
		b := written(d)
		for n := 1; n < len(b); n++ {
			l = append(l, b[:n])
		}
		l = append(l, b[1:], b+"\x00", b+"\x01", b+b, b+written(aLink(0, "m", true, 0)), "\x00"+b)
	}
	return l
}

// goods can be done to the sample, whatever of the others was done ahead.
func goods() []deed.Deed {
	return []deed.Deed{aLink(3, "x", true, 0), aLink(3, "y", false, 0), aMove(3, "x", 6, "x", 7)}
}

// expectNoneAmong has the record first, last, and each place between.
func expectNoneAmong(t *testing.T, b string) {
	t.Helper()
	var records []string
	for _, d := range goods() {
		records = append(records, written(d))
	}
	whole := image.Encode(behind(sample()...))
	for at := range len(records) + 1 {
		expectNone(t, stored(80, whole, slices.Insert(slices.Clone(records), at, b)...))
	}
	expectNone(t, stored(80, whole, b))
	expectNone(t, stored(80, whole, b, b))
}

// P13.1: records that are no deed's.
func TestMountNoDeed(t *testing.T) {
	for _, b := range noDeeds() {
		expectNoneAmong(t, b)
		expectNone(t, stored(80, rootAlone, b))
	}
}

// P13.1: deeds that can't be done, by each of the tree's errors.
func TestMountUndoable(t *testing.T) {
	came := map[api.Errno]int{}
	for _, w := range undoable() {
		if _, err := deed.Do(behind(sample()...), w.d); err != w.want {
			t.Errorf("%#v: %d; want %d", w.d, err, w.want)
		}
		expectNoneAmong(t, written(w.d))
		came[w.want]++
	}
	for _, err := range []api.Errno{api.ErrNone, api.ErrNotDir, api.ErrName, api.ErrExists, api.ErrDir, api.ErrNotEmpty, api.ErrLoop} {
		if came[err] == 0 {
			t.Errorf("%d never came", err)
		}
	}
}

// full has as many nodes as may be.
func full() *tree.Tree {
	tr := tree.New()
	for n := range api.MaxNodes {
		if _, err := tr.Link(n/20, strconv.Itoa(n), true, 0); err != api.OK {
			panic("no link")
		}
	}
	return tr
}

// P13.1: likewise, of one node too many.
func TestMountMany(t *testing.T) {
	b := image.Encode(full())
	link, unlink := written(aLink(0, "n", true, 0)), written(anUnlink(9, "199", true))
	expectNone(t, stored(200, b, link))
	expectNone(t, stored(200, b, unlink, link, link))
	expectNone(t, stored(200, b, unlink, link, written(aLink(1, "n", true, 0))))
	want := full()
	called(want, anUnlink(9, "199", true))
	called(want, aLink(0, "n", true, 0))
	expectMounted(t, with(t, stored(200, b, unlink, link)), 99-len(frames(b))-2, want)
}

// P13.1: what can be done hangs on the order.
func TestMountOrder(t *testing.T) {
	link, below, move := written(aLink(0, "a", true, 0)), written(aLink(1, "b", false, 0)), written(aMove(1, "b", 0, "b", 0))
	for _, l := range [][]string{
		{below}, {below, link}, {link, link}, {link, move}, {link, below, below}, {link, below, move, move}, {link, move, below},
	} {
		expectNone(t, stored(20, rootAlone, l...))
	}
	want := behind(aLink(0, "a", true, 0), aLink(1, "b", false, 0), aMove(1, "b", 0, "b", 0))
	expectMounted(t, with(t, stored(20, rootAlone, link, below, move)), 5, want)
	expectMounted(t, with(t, stored(20, rootAlone, link, below, move, below)), 4, behind(aLink(0, "a", true, 0), aLink(1, "b", false, 0), aMove(1, "b", 0, "b", 0), aLink(1, "b", false, 0)))
}

// P13.1: a record of no bytes, or one that isn't whole, doesn't stand: the
// deeds ahead of it are done, and those behind it are gone.
func TestMountEnd(t *testing.T) {
	a, b, c := aLink(0, "a", true, 0), aLink(0, named(1, 100), false, 0), aLink(0, "c", true, 0)
	ahead := frames(rootAlone, written(a))
	torn := frames(written(b))
	for _, rest := range [][]string{
		{framed(0, "")},
		{framed(0, written(c))},
		{torn[0]},
		{torn[0], torn[0]},
		{framed(5, written(c))},
		{framed(api.MaxImage+1, text62())},
	} {
		behindIt := append(slices.Clone(rest), frames(written(c))...)
		for _, l := range [][]string{rest, behindIt} {
			d := with(t, spread(21, held{head(3), append(slices.Clone(ahead), l...)}, of(2, rootAlone, written(c))))
			expectStore(t, mount(t, d), 7, behind(a))
			expectSectors(t, d, spread(21, held{head(3), ahead}, of(2, rootAlone, written(c))))
			expectMounted(t, d, 7, behind(a))
		}
	}
}

// P13.1: records that are deeds, each kind, up to a bank that is full.
func TestMountDeeds(t *testing.T) {
	deeds := append(sample(), goods()...)
	deeds = append(deeds, anUnlink(0, "b", false), aLink(6, "caf\xe9", false, 0))
	for count := range len(deeds) + 1 {
		var records []string
		for _, one := range deeds[:count] {
			records = append(records, written(one))
		}
		for size := 2 * (2 + count); size < 2*(4+count); size++ {
			want := behind(deeds[:count]...)
			sectors := stored(size, rootAlone, records...)
			expectMounted(t, with(t, sectors), size/2-2-count, want)
			d := with(t, sectors)
			mount(t, d)
			expectSectors(t, d, sectors)
		}
	}
}

// P13.1: images of trees, the deeds done to them.
func TestMountImages(t *testing.T) {
	last, err := tree.Make(math.MaxInt64, map[int][]api.Entry{0: {{Name: "z", Node: 200, Cookie: math.MaxInt64 - 1, Short: 1000000}}})
	if err != api.OK {
		t.Fatal("no tree")
	}
	for _, tr := range []*tree.Tree{tree.New(), behind(sample()...), last} {
		b := image.Encode(tr)
		expectMounted(t, with(t, stored(60, b)), 29-len(frames(b)), tr)
		n, err := tr.Link(0, "n", true, 5)
		if err != api.OK {
			t.Fatalf("Link = %d", err)
		}
		d := with(t, stored(60, b, written(aLink(0, "n", true, 5))))
		expectMounted(t, d, 28-len(frames(b)), tr)
		s := mount(t, d)
		do(t, d, s, anUnlink(0, "n", true), 0)
		if tr.Cookie() > 0 {
			do(t, d, s, aLink(0, "m", true, 5), n)
		}
	}
}

// P13.1: the bank of the greater epoch alone is asked.
func TestMountEpochs(t *testing.T) {
	a, b := of(1, rootAlone, written(aLink(0, "a", true, 0))), of(1, rootAlone, written(aLink(0, "b", false, 0)))
	for _, w := range []struct {
		first, second uint64
		want          deed.Deed
	}{
		{1, 0, aLink(0, "a", true, 0)},
		{0, 1, aLink(0, "b", false, 0)},
		{1, 1, aLink(0, "a", true, 0)},
		{5, 6, aLink(0, "b", false, 0)},
		{6, 5, aLink(0, "a", true, 0)},
		{1 << 63, 1<<63 - 1, aLink(0, "a", true, 0)},
		{math.MaxUint64 - 1, math.MaxUint64, aLink(0, "b", false, 0)},
	} {
		a.head, b.head = head(w.first), head(w.second)
		expectMounted(t, with(t, spread(10, a, b)), 2, behind(w.want))
	}
}

// P13.1: whatever is pending is safe behind a Mount.
func TestMountFlushes(t *testing.T) {
	d, s := fresh(t, 20)
	do(t, d, s, aLink(0, "a", true, 0), 1)
	do(t, d, s, aLink(1, "b", false, 0), 2)
	expectPending(t, d, 2)
	mount(t, d)
	d.Restart()
	expectMounted(t, d, 6, behind(aLink(0, "a", true, 0), aLink(1, "b", false, 0)))
}

// P13.1: what stands in the vault stays, where Mount finds no store; what is
// behind its end is wiped, as the vault is open by then.
func TestMountWipesAhead(t *testing.T) {
	bad := frames("no tree's image", "no deed's record")
	d := with(t, spread(14, held{head(4), append(slices.Clone(bad), noughts(), mark(1), mark(2))}, of(3, rootAlone)))
	expectNoMount(t, d, api.ErrForm)
	expectSectors(t, d, spread(14, held{head(4), bad}, of(3, rootAlone)))
	expectPending(t, d, 0)
	v, err := vault.Open(d)
	if err != api.OK || v.Image() != "no tree's image" || !slices.Equal(v.Records(), []string{"no deed's record"}) {
		t.Errorf("Open = %v, %d", v, err)
	}
	for writes := range 3 {
		d := with(t, spread(14, held{head(4), append(slices.Clone(bad), noughts(), mark(1), mark(2))}, of(3, rootAlone)))
		d.Cut(writes)
		expectNoMount(t, d, api.ErrLost)
		expectPending(t, d, writes)
	}
}

// P13.1, R7: a Mount beside a store leaves that as it is, and it goes on.
func TestMountBeside(t *testing.T) {
	d, s := started(t, 40, sample()...)
	do(t, d, s, aLink(3, "n", true, 0), 9)
	other := mount(t, d)
	expectStore(t, s, 9, other.Tree())
	do(t, d, s, aLink(9, "m", false, 0), 10)
	expectStore(t, other, 9, behind(append(sample(), aLink(3, "n", true, 0))...))
	d.Cut(0)
	expectNoMount(t, d, api.ErrLost)
	want := behind(append(sample(), aLink(3, "n", true, 0), aLink(9, "m", false, 0))...)
	expectStore(t, s, 8, want)
	expect(t, "Sync", s.Sync(), api.ErrLost)
	expectOver(t, s, 8, want)
	if other.Over() {
		t.Error("a store is over by what another one has met")
	}
}
