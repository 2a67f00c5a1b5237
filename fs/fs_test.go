package fs_test

import (
	"fmt"
	"math"
	"runtime/debug"
	"slices"
	"strings"
	"testing"

	"toponym/api"
	"toponym/fs"
	"toponym/image"
	"toponym/sector"
	"toponym/tree"
)

const encodings = 9

// TestMain has rubbish gathered less often: devices are read whole, over and
// over, to see whether something has changed.
func TestMain(m *testing.M) {
	debug.SetGCPercent(800)
	m.Run()
}

func noEncodings() []int {
	return []int{-1, 9, 10, -8, 255, 256, 264, math.MinInt, math.MaxInt, math.MinInt32, math.MaxInt32, 1 << 32, 1<<32 + 8}
}

// stars would be presented by three bytes each in all encodings: from 86 on
// they are long.
func stars(n int) string {
	return strings.Repeat("*", n)
}

func letters(n int) string {
	return strings.Repeat("a", n)
}

// alike are long names of one hash, by stars at their ends: the words of each
// pair lead from one hash to another one.
func alike() []string {
	l := []string{""}
	for _, pair := range [][]string{{"liquid", "costarring"}, {"attaoo", "edblvs"}, {"dnsoyg", "fgxioa"}} {
		var longer []string
		for _, begin := range l {
			longer = append(longer, begin+pair[0], begin+pair[1])
		}
		l = longer
	}
	for i := range l {
		l[i] += stars(90)
	}
	return l
}

// of is a path of these names.
func of(names ...string) string {
	return "/" + strings.Join(names, "/")
}

// deep is a path of so many names.
func deep(n int, name string) string {
	return strings.Repeat("/"+name, n)
}

// drawer picks numbers from 0 on by a small sum.
func drawer() func(below int) int {
	state := uint32(1)
	return func(below int) int {
		state = state*1664525 + 1013904223
		return int(state>>16) % below
	}
}

// files is what the chapter lists, but Format and Mount.
type files interface {
	Lookup(path string) (int, bool, api.Errno)
	Make(path string, isDir bool) (int, api.Errno)
	Remove(path string, isDir bool) api.Errno
	Rename(from, to string) api.Errno
	List(path string, at int64, n int) ([]string, int64, api.Errno)
	Raw(path string) (string, api.Errno)
	Plant(path, raw string, isDir bool) (int, api.Errno)
	Sync() api.Errno
	Over() bool
	Room() int
	Tree() *tree.Tree
}

// answer is what a call tells; names are joined, so that answers can be held
// against each other.
type answer struct {
	err   api.Errno
	node  int
	is    bool
	text  string
	names string
	next  int64
}

func wrong(err api.Errno) answer {
	return answer{err: err}
}

func (a answer) String() string {
	return fmt.Sprintf("%d (node %d, %v; %+q; %s; next %d)", a.err, a.node, a.is, a.text, cut(a.names), a.next)
}

// cut leaves out most of what is very long.
func cut(text string) string {
	if len(text) < 300 {
		return text
	}
	return fmt.Sprintf("%s and so on, of %d bytes", text[:150], len(text))
}

// call is one that can be done to whatever files.
type call struct {
	what string
	does bool // what goes right changes something
	on   func(f files) answer
}

func lookup(path string) call {
	return call{fmt.Sprintf("Lookup(%+q)", path), false, func(f files) answer {
		n, is, err := f.Lookup(path)
		return answer{err: err, node: n, is: is}
	}}
}

func raw(path string) call {
	return call{fmt.Sprintf("Raw(%+q)", path), false, func(f files) answer {
		text, err := f.Raw(path)
		return answer{err: err, text: text}
	}}
}

func list(path string, at int64, n int) call {
	return call{fmt.Sprintf("List(%+q, %d, %d)", path, at, n), false, func(f files) answer {
		names, next, err := f.List(path, at, n)
		return answer{err: err, names: joined(names), next: next}
	}}
}

// joined tells how many, and which; of none it is "".
func joined(names []string) string {
	if len(names) == 0 {
		return ""
	}
	return fmt.Sprintf("%+q", names)
}

func makes(path string, isDir bool) call {
	return call{fmt.Sprintf("Make(%+q, %v)", path, isDir), true, func(f files) answer {
		n, err := f.Make(path, isDir)
		return answer{err: err, node: n}
	}}
}

func removes(path string, isDir bool) call {
	return call{fmt.Sprintf("Remove(%+q, %v)", path, isDir), true, func(f files) answer {
		return answer{err: f.Remove(path, isDir)}
	}}
}

func renames(from, to string) call {
	return call{fmt.Sprintf("Rename(%+q, %+q)", from, to), true, func(f files) answer {
		return answer{err: f.Rename(from, to)}
	}}
}

func plants(path, raw string, isDir bool) call {
	return call{fmt.Sprintf("Plant(%+q, % x of %d bytes, %v)", path, raw[:min(len(raw), 50)], len(raw), isDir), true, func(f files) answer {
		n, err := f.Plant(path, raw, isDir)
		return answer{err: err, node: n}
	}}
}

func syncs() call {
	return call{"Sync()", true, func(f files) answer {
		return answer{err: f.Sync()}
	}}
}

// disk is a file system on its device, and what the chapters say of it.
type disk struct {
	enc int
	d   *sector.Device
	f   *fs.FS
	m   *ruled
}

// fresh is a root alone.
func fresh(t *testing.T, sectors, enc int) *disk {
	t.Helper()
	d := sector.New(sectors)
	if err := fs.Format(d); err != api.OK {
		t.Fatalf("Format(%d sectors) = %d", sectors, err)
	}
	k := &disk{enc, d, mount(t, d, enc), newRuled(enc, sectors)}
	k.expectState(t)
	return k
}

func mount(t *testing.T, d *sector.Device, enc int) *fs.FS {
	t.Helper()
	f, err := fs.Mount(d, enc)
	if f == nil || err != api.OK {
		t.Fatalf("Mount(%d sectors, %d) = a file system: %v, %d", d.Size(), enc, f != nil, err)
	}
	return f
}

// sectorsOf is empty where power is gone.
func sectorsOf(d *sector.Device) string {
	var text strings.Builder
	for i := range d.Size() {
		b, _ := d.Get(i)
		text.WriteString(b)
	}
	return text.String()
}

// with is a device of these sectors, flushed.
func with(t *testing.T, sectors string) *sector.Device {
	t.Helper()
	d := sector.New(len(sectors) / api.Sector)
	for i := range d.Size() {
		if err := d.Put(i, sectors[i*api.Sector:(i+1)*api.Sector]); err != api.OK {
			t.Fatalf("Put(%d) = %d", i, err)
		}
	}
	if err := d.Flush(); err != api.OK {
		t.Fatalf("Flush() = %d", err)
	}
	return d
}

// state is all that can be seen of a disk but by paths.
type state struct {
	image, sectors string
	pending, room  int
	over           bool
}

func (k *disk) state() state {
	return state{image.Encode(k.f.Tree()), sectorsOf(k.d), k.d.Pending(), k.f.Room(), k.f.Over()}
}

// expectState is asked of disks that have power.
func (k *disk) expectState(t *testing.T) {
	t.Helper()
	if got, want := k.f.Tree(), k.m.Tree(); !tree.Same(got, want) || got.Nodes() != want.Nodes() {
		t.Errorf("the tree has the image % x; want % x", image.Encode(got), image.Encode(want))
	}
	if got, want := k.f.Room(), k.m.Room(); got != want {
		t.Errorf("Room() = %d; want %d", got, want)
	}
	if k.f.Over() {
		t.Error("Over() = true; want false")
	}
	if got, want := k.d.Pending(), k.m.pending; got != want {
		t.Errorf("Pending() = %d; want %d", got, want)
	}
}

// try does a call, and holds what it tells and does against the chapters. What
// only asks, and what goes wrong, changes nothing; but what has no room may have
// renewed the vault.
func (k *disk) try(t *testing.T, c call) answer {
	t.Helper()
	want := c.on(k.m)
	stays := !c.does || want.err != api.OK && want.err != api.ErrFull
	var before state
	if stays {
		before = k.state()
	}
	got := c.on(k.f)
	if got != want {
		t.Errorf("%d: %s = %s; want %s", k.enc, c.what, got, want)
	}
	k.expectState(t)
	if stays && k.state() != before {
		t.Errorf("%d: %s = %s, and something has changed", k.enc, c.what, got)
	}
	if t.Failed() {
		t.FailNow()
	}
	return got
}

// expect says what the answer is, too.
func (k *disk) expect(t *testing.T, c call, want answer) {
	t.Helper()
	if got := k.try(t, c); got != want {
		t.Fatalf("%d: %s = %s; want %s", k.enc, c.what, got, want)
	}
}

func (k *disk) expectWrong(t *testing.T, want api.Errno, l ...call) {
	t.Helper()
	for _, c := range l {
		k.expect(t, c, wrong(want))
	}
}

// do is for what must go right, whatever number it tells.
func (k *disk) do(t *testing.T, l ...call) {
	t.Helper()
	for _, c := range l {
		if got := k.try(t, c); got.err != api.OK {
			t.Fatalf("%d: %s = %s", k.enc, c.what, got)
		}
	}
}

// expectNode is asked of a node that a path leads to, and of its name on the
// disk.
func (k *disk) expectNode(t *testing.T, path string, node int, isDir bool, name string) {
	t.Helper()
	k.expect(t, lookup(path), answer{node: node, is: isDir})
	k.expect(t, raw(path), answer{text: name})
}

func (k *disk) expectNames(t *testing.T, path string, want ...string) {
	t.Helper()
	names, _, err := k.f.List(path, 0, api.MaxBatch)
	if !slices.Equal(names, want) || err != api.OK {
		t.Errorf("%d: List(%+q) = %+q, %d; want %+q", k.enc, path, names, err, want)
	}
	k.try(t, list(path, 0, api.MaxBatch))
}

// expectMounted mounts a copy, with all that is pending, and once more.
func (k *disk) expectMounted(t *testing.T) {
	t.Helper()
	d := with(t, sectorsOf(k.d))
	for range 2 {
		again := mount(t, d, k.enc)
		if !tree.Same(again.Tree(), k.m.Tree()) || again.Room() != k.m.Room() || again.Over() || d.Pending() != 0 {
			t.Fatalf("%d: mounted: % x, Room() = %d, Over() = %v; want % x, %d", k.enc, image.Encode(again.Tree()), again.Room(), again.Over(), image.Encode(k.m.Tree()), k.m.Room())
		}
	}
}

// remount goes on with what stands.
func (k *disk) remount(t *testing.T) {
	t.Helper()
	k.f = mount(t, k.d, k.enc)
	k.m.pending = 0
	k.expectState(t)
}

// small leads to the directories 0, 1, 2 and 5, of which 5 is empty, and the
// files 3, 4 and 6, by names that are alike in all encodings; 6 is long.
func small(t *testing.T, sectors, enc int) *disk {
	t.Helper()
	k := fresh(t, sectors, enc)
	k.do(t,
		makes("/a", true), makes("/a/b", true), makes("/a/b/c", false), makes("/f", false), makes("/e", true),
		plants("/", stars(90), false), syncs(),
	)
	return k
}

// face90 is that of 90 stars.
const face90 = "%~a99fd875-1"

// P17.3: the chapter's example, and the first two of the whole's: the name has
// four bytes on the disk, and what Latin1 hasn't is no name there.
func TestExamples(t *testing.T) {
	k := fresh(t, 60, api.Latin1)
	k.expect(t, makes("/caf\u00e9", true), answer{node: 1})
	k.expectNode(t, "/caf\u00e9", 1, true, "\x63\x61\x66\xe9")
	e, err := k.f.Tree().Find(0, "caf\xe9")
	if want := (api.Entry{Name: "caf\xe9", Node: 1, Dir: true, Cookie: 1}); e != want || err != api.OK {
		t.Errorf("the entry is %#v, %d", e, err)
	}
	k.expectWrong(t, api.ErrName, makes("/\u20ac", false))
	k.expect(t, plants("/", stars(90), false), answer{node: 2})
	k.expectNode(t, "/"+face90, 2, false, stars(90))
	k.expectNames(t, "/", "caf\u00e9", face90)
	k.expectMounted(t)
}

// The third of the whole's examples: of e and U+0301 it is the one of both, and
// of that one its bytes.
func TestExampleHFS(t *testing.T) {
	k := fresh(t, 60, api.HFS)
	k.do(t, plants("/", "e\u0301", false), plants("/", "\u00e9", true))
	k.expectNames(t, "/", "\u00e9", "%c3%a9")
	k.expectNode(t, "/\u00e9", 1, false, "e\u0301")
	k.expectNode(t, "/%c3%a9", 2, true, "\u00e9")
	k.expectWrong(t, api.ErrNone, lookup("/e\u0301"), raw("/e\u0301"))
	k.expectMounted(t)
}

// What the tests lean on: the names that are alike have one hash.
func TestAlike(t *testing.T) {
	l := alike()
	for _, name := range l {
		if hashed(name) != hashed(l[0]) {
			t.Errorf("%s has the hash %x", name, hashed(name))
		}
	}
	slices.Sort(l)
	if len(slices.Compact(l)) != 8 {
		t.Errorf("there are %q", l)
	}
}
