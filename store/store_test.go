package store_test

import (
	"encoding/binary"
	"slices"
	"strconv"
	"strings"
	"testing"

	"toponym/api"
	"toponym/deed"
	"toponym/image"
	"toponym/sector"
	"toponym/store"
	"toponym/tree"
)

// rootAlone is chapter 12's example.
const rootAlone = "\x00\x00\x00\x00\x00\x00\x00\x01\x00\x01\x00\x00\x00\x00"

func aLink(dir int, name string, isDir bool, short int) deed.Deed {
	return deed.Deed{Kind: 1, Dir: dir, Name: name, IsDir: isDir, Short: short}
}

func anUnlink(dir int, name string, isDir bool) deed.Deed {
	return deed.Deed{Kind: 2, Dir: dir, Name: name, IsDir: isDir}
}

func aMove(dir int, name string, to int, as string, short int) deed.Deed {
	return deed.Deed{Kind: 3, Dir: dir, Name: name, To: to, As: as, Short: short}
}

// written is of deeds that have bytes.
func written(d deed.Deed) string {
	b, err := deed.Encode(d)
	if err != api.OK {
		panic("no bytes of a deed")
	}
	return b
}

// sized is a link of just so many bytes, from ten on, by a name that tells n.
func sized(n, size int) deed.Deed {
	return aLink(0, named(n, size-9), true, 0)
}

// named is a name of just so many bytes that tells n.
func named(n, size int) string {
	digits := strconv.Itoa(n)
	return digits + strings.Repeat("*", size-len(digits))
}

// called does what layer 10's own call does.
func called(tr *tree.Tree, d deed.Deed) (int, api.Errno) {
	switch d.Kind {
	case 1:
		return tr.Link(d.Dir, d.Name, d.IsDir, d.Short)
	case 2:
		return 0, tr.Unlink(d.Dir, d.Name, d.IsDir)
	}
	return 0, tr.Move(d.Dir, d.Name, d.To, d.As, d.Short)
}

// behind is the tree behind these deeds, which can be done.
func behind(deeds ...deed.Deed) *tree.Tree {
	tr := tree.New()
	for _, d := range deeds {
		if _, err := called(tr, d); err != api.OK {
			panic("a deed can't be done")
		}
	}
	return tr
}

// sample leads to the directories 0, 1, 3, 5 and 6, of which 3 is empty, and
// the files 2, 4, 7 and 8; the next cookie is 9.
func sample() []deed.Deed {
	return []deed.Deed{
		aLink(0, "a", true, 0), aLink(0, "b", false, 0), aLink(0, "c", true, 0), aLink(1, "a", false, 0),
		aLink(1, "d", true, 0), aLink(5, "e", true, 0), aLink(5, "f", false, 0), aLink(6, "g", false, 0),
	}
}

// wrong is a deed that can't be done, and its error.
type wrong struct {
	d    deed.Deed
	want api.Errno
}

// undoable can't be done to the sample, though they have bytes.
func undoable() []wrong {
	return []wrong{
		{aLink(100, "n", false, 0), api.ErrNone},
		{aLink(200, "n", true, 1), api.ErrNone},
		{aLink(201, "..", true, 1), api.ErrNone},
		{aLink(65535, "n", false, 1000000), api.ErrNone},
		{aLink(2, "n", true, 0), api.ErrNotDir},
		{aLink(8, "", true, 0), api.ErrNotDir},
		{aLink(0, "", true, 0), api.ErrName},
		{aLink(0, ".", false, 0), api.ErrName},
		{aLink(3, "a/b", true, 0), api.ErrName},
		{aLink(3, "a\x00", false, 0), api.ErrName},
		{aLink(0, "a", true, 0), api.ErrExists},
		{aLink(6, "g", false, 2), api.ErrExists},
		{anUnlink(100, "a", true), api.ErrNone},
		{anUnlink(0, "x", true), api.ErrNone},
		{anUnlink(4, "a", true), api.ErrNotDir},
		{anUnlink(0, "b", true), api.ErrNotDir},
		{anUnlink(0, "c", false), api.ErrDir},
		{anUnlink(0, "a", true), api.ErrNotEmpty},
		{anUnlink(5, "e", true), api.ErrNotEmpty},
		{aMove(100, "a", 0, "n", 0), api.ErrNone},
		{aMove(0, "x", 2, "..", 0), api.ErrNone},
		{aMove(0, "a", 100, "..", 0), api.ErrNone},
		{aMove(2, "a", 0, "n", 0), api.ErrNotDir},
		{aMove(0, "a", 2, "..", 0), api.ErrNotDir},
		{aMove(0, "a", 1, "..", 0), api.ErrName},
		{aMove(0, "a", 1, "a", 0), api.ErrLoop},
		{aMove(0, "a", 6, "g", 0), api.ErrLoop},
		{aMove(0, "a", 0, "a", 0), api.ErrExists},
		{aMove(0, "b", 1, "a", 5), api.ErrExists},
	}
}

// shapeless have no bytes; some could be done to the sample otherwise, and some
// have other things wrong with them.
func shapeless() []wrong {
	long := strings.Repeat("n", api.MaxRaw+1)
	deeds := []deed.Deed{
		{},
		{Kind: 4, Name: "n"},
		{Kind: -1, Name: "n"},
		{Kind: 257, Name: "n"},
		{Kind: 1, Name: "n", To: 1},
		{Kind: 1, Name: "n", As: "n"},
		{Kind: 2, Name: "b", Short: 1},
		{Kind: 2, Name: "b", To: 1},
		{Kind: 2, Name: "b", As: "b"},
		{Kind: 3, Name: "b", As: "n", IsDir: true},
		aLink(-1, "n", true, 0),
		aLink(65536, "n", true, 0),
		aLink(0, "n", true, -1),
		aLink(0, "n", true, 1000001),
		aLink(0, long, true, 0),
		aLink(2, "a", true, 1000001),
		anUnlink(-1, "b", false),
		anUnlink(65536, "b", false),
		anUnlink(0, long, false),
		aMove(0, "b", -1, "n", 0),
		aMove(0, "b", 65536, "n", 0),
		aMove(0, "b", 0, long, 0),
		aMove(0, long, 0, "n", 0),
		aMove(0, "b", 0, "n", 1000001),
		aMove(0, "x", 0, "a", -1),
	}
	var l []wrong
	for _, d := range deeds {
		l = append(l, wrong{d, api.ErrArg})
	}
	return l
}

// drawer picks numbers from 0 on by a small sum.
func drawer() func(below int) int {
	state := uint32(1)
	return func(below int) int {
		state = state*1664525 + 1013904223
		return int(state>>16) % below
	}
}

func noughts() string {
	return strings.Repeat("\x00", api.Sector)
}

// mark is what stands in a sector that was never a store's.
func mark(i int) string {
	return strings.Repeat(string([]byte{byte(0xa0 + i%7), byte(i)}), api.Sector/2)
}

// head is that of an epoch; of 0 that of none.
func head(epoch uint64) string {
	if epoch == 0 {
		return noughts()
	}
	b := make([]byte, api.Sector)
	binary.BigEndian.PutUint64(b, epoch)
	binary.BigEndian.PutUint64(b[8:], ^epoch)
	return string(b)
}

// framed is a frame's bytes, of so many that are left, and noughts behind what
// is given of these.
func framed(left int, b string) string {
	return string([]byte{byte(left / 256), byte(left % 256)}) + b + strings.Repeat("\x00", 62-len(b))
}

// frames are what these records' frames should be, one by one.
func frames(records ...string) []string {
	var l []string
	for _, record := range records {
		for len(record) > 62 {
			l = append(l, framed(len(record), record[:62]))
			record = record[62:]
		}
		l = append(l, framed(len(record), record))
	}
	return l
}

// held is a bank's head, and its frames from 1 on; behind these are noughts.
type held struct {
	head   string
	frames []string
}

// of is a bank with these records, the image first.
func of(epoch uint64, records ...string) held {
	return held{head(epoch), frames(records...)}
}

// spread are a device's sectors with these banks; of an odd number the last one
// has a mark.
func spread(size int, first, second held) []string {
	l := slices.Repeat([]string{noughts()}, size)
	for i, b := range []held{first, second} {
		from := i * (size / 2)
		l[from] = b.head
		if copy(l[from+1:from+size/2], b.frames) < len(b.frames) {
			panic("no room for a bank's frames")
		}
	}
	if size%2 == 1 {
		l[size-1] = mark(size - 1)
	}
	return l
}

// with is a device of these sectors, flushed.
func with(t *testing.T, sectors []string) *sector.Device {
	t.Helper()
	d := sector.New(len(sectors))
	for i, b := range sectors {
		if b == noughts() {
			continue
		}
		if err := d.Put(i, b); err != api.OK {
			t.Fatalf("Put(%d) = %d", i, err)
		}
	}
	if err := d.Flush(); err != api.OK {
		t.Fatalf("Flush() = %d", err)
	}
	return d
}

// marked is a device of marks.
func marked(t *testing.T, size int) *sector.Device {
	t.Helper()
	l := make([]string, size)
	for i := range l {
		l[i] = mark(i)
	}
	return with(t, l)
}

// sectorsOf is nil where power is gone.
func sectorsOf(d *sector.Device) []string {
	l := make([]string, d.Size())
	for i := range l {
		b, err := d.Get(i)
		if err != api.OK {
			return nil
		}
		l[i] = b
	}
	return l
}

// copied has what a restart that keeps all would leave.
func copied(t *testing.T, d *sector.Device) *sector.Device {
	t.Helper()
	return with(t, sectorsOf(d))
}

func expect(t *testing.T, what string, err, want api.Errno) {
	t.Helper()
	if err != want {
		t.Errorf("%s = %d; want %d", what, err, want)
	}
}

func expectSectors(t *testing.T, d *sector.Device, want []string) {
	t.Helper()
	l := sectorsOf(d)
	if len(l) != len(want) {
		t.Fatalf("%d sectors; want %d", len(l), len(want))
	}
	for i, b := range want {
		if l[i] != b {
			t.Errorf("sector %d: % x; want % x", i, l[i], b)
		}
	}
}

func expectPending(t *testing.T, d *sector.Device, want int) {
	t.Helper()
	if n := d.Pending(); n != want {
		t.Errorf("Pending() = %d; want %d", n, want)
	}
}

func format(t *testing.T, d *sector.Device) {
	t.Helper()
	if err := store.Format(d); err != api.OK {
		t.Fatalf("Format(%d sectors) = %d; want OK", d.Size(), err)
	}
	expectPending(t, d, 0)
}

func mount(t *testing.T, d *sector.Device) *store.Store {
	t.Helper()
	s, err := store.Mount(d)
	if s == nil || err != api.OK {
		t.Fatalf("Mount(%d sectors) = a store: %t, %d; want one, OK", d.Size(), s != nil, err)
	}
	expectPending(t, d, 0)
	return s
}

func expectNoMount(t *testing.T, d *sector.Device, want api.Errno) {
	t.Helper()
	if s, err := store.Mount(d); s != nil || err != want {
		t.Errorf("Mount(%d sectors) = a store: %t, %d; want none, %d", d.Size(), s != nil, err, want)
	}
}

// fresh is a store of nothing but a root.
func fresh(t *testing.T, size int) (*sector.Device, *store.Store) {
	t.Helper()
	d := sector.New(size)
	format(t, d)
	return d, mount(t, d)
}

// started is a store behind deeds that are synced.
func started(t *testing.T, size int, deeds ...deed.Deed) (*sector.Device, *store.Store) {
	t.Helper()
	d, s := fresh(t, size)
	for _, one := range deeds {
		if _, err := s.Do(one); err != api.OK {
			t.Fatalf("Do(%#v) = %d", one, err)
		}
	}
	sync(t, d, s)
	return d, s
}

// sync checks that nothing is pending any more.
func sync(t *testing.T, d *sector.Device, s *store.Store) {
	t.Helper()
	if err := s.Sync(); err != api.OK {
		t.Fatalf("Sync() = %d; want OK", err)
	}
	expectPending(t, d, 0)
}

// expectTree asks for what the next call would give, too.
func expectTree(t *testing.T, tr, want *tree.Tree) {
	t.Helper()
	if !tree.Same(tr, want) || tr.Nodes() != want.Nodes() || !slices.Equal(tr.Dirs(), want.Dirs()) {
		t.Errorf("the tree has the image % x; want % x", image.Encode(tr), image.Encode(want))
		return
	}
	n, err := tr.Clone().Link(0, "the next one", true, 0)
	if wantN, wantErr := want.Clone().Link(0, "the next one", true, 0); n != wantN || err != wantErr {
		t.Errorf("the next link gives %d, %d; want %d, %d", n, err, wantN, wantErr)
	}
}

// expectStore is asked of stores that aren't over.
func expectStore(t *testing.T, s *store.Store, room int, want *tree.Tree) {
	t.Helper()
	expectKept(t, s, room, want)
	if s.Over() {
		t.Error("Over() = true; want false")
	}
}

// expectOver is asked of stores that are over: what they have stays.
func expectOver(t *testing.T, s *store.Store, room int, want *tree.Tree) {
	t.Helper()
	expectKept(t, s, room, want)
	if !s.Over() {
		t.Error("Over() = false; want true")
	}
}

func expectKept(t *testing.T, s *store.Store, room int, want *tree.Tree) {
	t.Helper()
	if got := s.Room(); got != room {
		t.Errorf("Room() = %d; want %d", got, room)
	}
	expectTree(t, s.Tree(), want)
}

// expectMounted mounts a copy, so that what is pending stays so.
func expectMounted(t *testing.T, d *sector.Device, room int, want *tree.Tree) {
	t.Helper()
	c := copied(t, d)
	expectStore(t, mount(t, c), room, want)
	expectStore(t, mount(t, c), room, want)
}

// do is for what must go right beside what stands, with a node's number or 0.
func do(t *testing.T, d *sector.Device, s *store.Store, one deed.Deed, want int) {
	t.Helper()
	tr, room, pending, need := s.Tree(), s.Room(), d.Pending(), len(frames(written(one)))
	if n, err := s.Do(one); n != want || err != api.OK {
		t.Fatalf("Do(%#v) = %d, %d; want %d, OK", one, n, err, want)
	}
	called(tr, one)
	expectPending(t, d, pending+need)
	expectStore(t, s, room-need, tr)
	expectMounted(t, d, room-need, tr)
}

// expectNotDone is for what goes wrong ahead of the vault.
func expectNotDone(t *testing.T, d *sector.Device, s *store.Store, one deed.Deed, want api.Errno) {
	t.Helper()
	tr, room, sectors, pending := s.Tree(), s.Room(), sectorsOf(d), d.Pending()
	if n, err := s.Do(one); n != 0 || err != want {
		t.Errorf("Do(%#v) = %d, %d; want 0, %d", one, n, err, want)
	}
	expectSectors(t, d, sectors)
	expectPending(t, d, pending)
	expectStore(t, s, room, tr)
	expectMounted(t, d, room, tr)
}

// P13.1, P13.2: the chapter's example, by its sectors: on a device of six there
// is room for a deed beside the image, then the vault is renewed, and then
// there is none left in either bank.
func TestExample(t *testing.T) {
	const a, b = "\x01\x00\x00\x01a\x00\x00\x00\x00\x00", "\x01\x00\x00\x01b\x00\x00\x00\x00\x00"
	const hasA = "\x00\x00\x00\x00\x00\x00\x00\x02\x00\x01\x00\x00\x00\x01\x01a\x00\x01\x00\x00\x00\x00\x00\x00\x00\x00\x01\x00\x00\x00\x00"
	const hasAB = "\x00\x00\x00\x00\x00\x00\x00\x03\x00\x01\x00\x00\x00\x02\x01a\x00\x01\x00\x00\x00\x00\x00\x00\x00\x00\x01\x00\x00\x00\x00\x01b\x00\x02\x00\x00\x00\x00\x00\x00\x00\x00\x02\x00\x00\x00\x00"
	d, s := fresh(t, 6)
	expectSectors(t, d, spread(6, of(1, rootAlone), of(0)))
	do(t, d, s, aLink(0, "a", false, 0), 1)
	expectSectors(t, d, spread(6, of(1, rootAlone, a), of(0)))
	if n, err := s.Do(aLink(0, "b", false, 0)); n != 2 || err != api.OK {
		t.Errorf("Do = %d, %d; want 2", n, err)
	}
	expectSectors(t, d, spread(6, of(1, rootAlone, a), of(2, hasA, b)))
	if n, err := s.Do(aMove(0, "a", 0, "c", 0)); n != 0 || err != api.OK {
		t.Errorf("Do = %d, %d; want 0", n, err)
	}
	expectSectors(t, d, spread(6, of(3, hasAB, "\x03\x00\x00\x01a\x00\x00\x01c\x00\x00\x00\x00"), of(2, hasA, b)))
	expectMounted(t, d, 0, behind(aLink(0, "a", false, 0), aLink(0, "b", false, 0), aMove(0, "a", 0, "c", 0)))
}

// P13.1, P13.2: a row of calls, from the store's beginning on.
func TestStore(t *testing.T) {
	d, s := fresh(t, 40)
	expectStore(t, s, 18, tree.New())
	for n, one := range sample() {
		do(t, d, s, one, n+1)
	}
	expectPending(t, d, 8)
	sync(t, d, s)
	do(t, d, s, anUnlink(0, "b", false), 0)
	do(t, d, s, aLink(3, "caf\xe9", false, 0), 2)
	do(t, d, s, aMove(0, "a", 3, "z", 1000000), 0)
	want := behind(append(sample(), anUnlink(0, "b", false), aLink(3, "caf\xe9", false, 0), aMove(0, "a", 3, "z", 1000000))...)
	expectStore(t, s, 7, want)
	expectPending(t, d, 3)
	d.Restart()
	expectMounted(t, d, 10, behind(sample()...))
}

// R7: stores of different devices don't hang on one another.
func TestSideBySide(t *testing.T) {
	a, s := fresh(t, 20)
	b, r := fresh(t, 20)
	do(t, a, s, aLink(0, "a", true, 0), 1)
	expectStore(t, r, 8, tree.New())
	expectPending(t, b, 0)
	do(t, b, r, aLink(0, "b", false, 0), 1)
	do(t, b, r, aLink(0, "c", false, 0), 2)
	expectStore(t, s, 7, behind(aLink(0, "a", true, 0)))
	expectPending(t, a, 1)
	a.Cut(0)
	expect(t, "Sync", s.Sync(), api.ErrLost)
	expectOver(t, s, 7, behind(aLink(0, "a", true, 0)))
	expectStore(t, r, 6, behind(aLink(0, "b", false, 0), aLink(0, "c", false, 0)))
	sync(t, b, r)
}

// R1: a store that nobody mounted has nothing, and nothing can be done to it.
func TestNobodyMounted(t *testing.T) {
	var s store.Store
	for range 2 {
		if !s.Over() || s.Room() != 0 {
			t.Errorf("Over() = %t, Room() = %d", s.Over(), s.Room())
		}
		if tr := s.Tree(); tr == nil || tr.Nodes() != 0 || len(tr.Dirs()) != 0 {
			t.Errorf("Tree() = %v", tr)
		}
		for _, one := range []deed.Deed{aLink(0, "a", true, 0), anUnlink(0, "a", true), aMove(0, "a", 0, "b", 0), {}} {
			if n, err := s.Do(one); n != 0 || err != api.ErrLost {
				t.Errorf("Do(%#v) = %d, %d; want 0, %d", one, n, err, api.ErrLost)
			}
		}
		expect(t, "Sync", s.Sync(), api.ErrLost)
	}
}
