package image_test

import (
	"encoding/binary"
	"math"
	"slices"
	"strings"
	"testing"

	"toponym/api"
	"toponym/image"
	"toponym/tree"
)

// ruledImage says the chapter over again.
func ruledImage(tr *tree.Tree) string {
	b := binary.BigEndian.AppendUint64(nil, uint64(tr.Cookie()))
	b = binary.BigEndian.AppendUint16(b, uint16(len(tr.Dirs())))
	for _, dir := range slices.Sorted(slices.Values(tr.Dirs())) {
		l, _ := tr.List(dir)
		b = binary.BigEndian.AppendUint16(b, uint16(dir))
		b = binary.BigEndian.AppendUint16(b, uint16(len(l)))
		for _, e := range l {
			b = append(append(b, byte(len(e.Name))), e.Name...)
			b = binary.BigEndian.AppendUint16(b, uint16(e.Node))
			if e.Dir {
				b = append(b, 1)
			} else {
				b = append(b, 0)
			}
			b = binary.BigEndian.AppendUint64(b, uint64(e.Cookie))
			b = binary.BigEndian.AppendUint32(b, uint32(e.Short))
		}
	}
	return string(b)
}

// ruledReader is wrong from the first byte on that isn't there, or isn't so.
type ruledReader struct {
	rest  string
	wrong bool
}

func (r *ruledReader) need(is bool) {
	r.wrong = r.wrong || !is
}

func (r *ruledReader) bytes(n int) string {
	r.need(n <= len(r.rest))
	if r.wrong {
		return strings.Repeat("\x00", n)
	}
	b := r.rest[:n]
	r.rest = r.rest[n:]
	return b
}

func (r *ruledReader) number(size int) int64 {
	n := binary.BigEndian.Uint64([]byte(strings.Repeat("\x00", 8-size) + r.bytes(size)))
	r.need(n <= math.MaxInt64)
	return int64(n)
}

func (r *ruledReader) entry() api.Entry {
	name := r.bytes(int(r.number(1)))
	node := r.number(2)
	isDir := r.number(1)
	r.need(isDir <= 1)
	cookie := r.number(8)
	return api.Entry{Name: name, Node: int(node), Dir: isDir == 1, Cookie: cookie, Short: int(r.number(4))}
}

// ruledDecode leaves it to layer 10 whether a tree has such entries; nil is
// that there is none.
func ruledDecode(b string) *tree.Tree {
	r := &ruledReader{rest: b}
	cookie := r.number(8)
	dirs := lists{}
	last := -1
	for left := r.number(2); left > 0 && !r.wrong; left-- {
		dir := int(r.number(2))
		r.need(dir > last)
		last = dir
		dirs[dir] = nil
		for left := r.number(2); left > 0 && !r.wrong; left-- {
			dirs[dir] = append(dirs[dir], r.entry())
		}
	}
	r.need(r.rest == "")
	if r.wrong {
		return nil
	}
	tr, _ := tree.Make(cookie, dirs)
	return tr
}

// expectRead holds Decode against the chapter, and Encode of what came of it
// against what was decoded; it tells whether there is such a tree.
func expectRead(t *testing.T, b string) bool {
	t.Helper()
	want := ruledDecode(b)
	if want == nil {
		expectNoTree(t, b)
		return false
	}
	tr := decoded(t, b)
	if !tree.Same(tr, want) || image.Encode(tr) != b {
		t.Errorf("Decode(% x) has % x; want % x", b, image.Encode(tr), ruledImage(want))
	}
	return true
}

func number(n uint64, size int) string {
	return string(binary.BigEndian.AppendUint64(nil, n)[8-size:])
}

// part is an entry whose fields may be whatever has room in its bytes.
type part struct {
	name   string
	node   uint64
	isDir  uint64
	cookie uint64
	short  uint64
}

func (p part) bytes() string {
	return number(uint64(len(p.name)), 1) + p.name + number(p.node, 2) + number(p.isDir, 1) + number(p.cookie, 8) + number(p.short, 4)
}

// block is a directory that tells so many entries more than it has.
type block struct {
	node  uint64
	more  int
	parts []part
}

func (d block) bytes() string {
	b := number(d.node, 2) + number(uint64(len(d.parts)+d.more), 2)
	for _, p := range d.parts {
		b += p.bytes()
	}
	return b
}

// loose is an image that may be no tree's.
type loose struct {
	cookie uint64
	more   int
	blocks []block
}

func (l loose) bytes() string {
	b := number(l.cookie, 8) + number(uint64(len(l.blocks)+l.more), 2)
	for _, d := range l.blocks {
		b += d.bytes()
	}
	return b
}

// looseOf shares nothing with another one of the same tree.
func looseOf(tr *tree.Tree) loose {
	l := loose{cookie: uint64(tr.Cookie())}
	for _, dir := range tr.Dirs() {
		d := block{node: uint64(dir)}
		entries, _ := tr.List(dir)
		for _, e := range entries {
			p := part{name: e.Name, node: uint64(e.Node), cookie: uint64(e.Cookie), short: uint64(e.Short)}
			if e.Dir {
				p.isDir = 1
			}
			d.parts = append(d.parts, p)
		}
		l.blocks = append(l.blocks, d)
	}
	return l
}

// fewParts are all lists of up to so many of the parts.
func fewParts(parts []part, most int) [][]part {
	all := [][]part{nil}
	for next := 0; next < len(all); next++ {
		l := all[next]
		if len(l) == most {
			continue
		}
		for _, p := range parts {
			all = append(all, append(slices.Clone(l), p))
		}
	}
	return all
}

// P12.1: all images of up to three directories of three numbers, of up to two
// entries of some each: those that a tree has, and, of all others, that no tree
// has them.
func TestDecodeFew(t *testing.T) {
	parts := []part{{"b", 2, 0, 2, 0}}
	for n := range uint64(8) {
		parts = append(parts, part{"a", 1 + n&1, n >> 1 & 1, 1 + n>>2, 0})
	}
	var firsts, others []block
	for n := range uint64(3) {
		for _, l := range fewParts(parts, 2) {
			firsts = append(firsts, block{node: n, parts: l})
			if len(l) < 2 {
				others = append(others, block{node: n, parts: l})
			}
		}
	}
	came := 0
	expect := func(blocks ...block) {
		t.Helper()
		if expectRead(t, loose{3, 0, blocks}.bytes()) {
			came++
		}
	}
	expect()
	for _, first := range firsts {
		expect(first)
		for _, second := range others {
			expect(first, second)
			for _, third := range others {
				expect(first, second, third)
			}
		}
		if t.Failed() {
			t.FailNow()
		}
	}
	if came < 20 {
		t.Errorf("%d have a tree", came)
	}
}

// drawer picks numbers below n by a small sum.
func drawer() func(n int) int {
	state := uint32(1)
	return func(n int) int {
		state = state*1664525 + 1013904223
		return int(state>>8) % n
	}
}

// drawn comes of so many calls, of which some go wrong.
func drawn(draw func(n int) int, calls int) *tree.Tree {
	tr := tree.New()
	name := func() string {
		b := []byte(strings.Repeat("x", []int{1, 1, 1, 2, 3, 1 + draw(254), 255}[draw(7)]))
		b[draw(len(b))] = byte(1 + draw(255))
		return string(b)
	}
	for range calls {
		dirs := tr.Dirs()
		dir, to := dirs[draw(len(dirs))], dirs[draw(len(dirs))]
		short := []int{0, 0, 1, draw(1000001), 1000000}[draw(5)]
		l, _ := tr.List(dir)
		switch {
		case len(l) == 0 || draw(3) > 0:
			tr.Link(dir, name(), draw(2) == 0, short)
		case draw(2) == 0:
			tr.Move(dir, l[draw(len(l))].Name, to, name(), short)
		default:
			e := l[draw(len(l))]
			tr.Unlink(dir, e.Name, e.Dir)
		}
	}
	if draw(3) == 0 {
		l := lists{}
		for _, dir := range tr.Dirs() {
			l[dir], _ = tr.List(dir)
		}
		tr = made(tr.Cookie()+int64(draw(1<<20))<<draw(40), l)
	}
	return tr
}

// wrong changes one thing, mostly to what it can't be.
func (l *loose) wrong(draw func(n int) int) {
	if len(l.blocks) == 0 {
		return
	}
	at, other := draw(len(l.blocks)), draw(len(l.blocks))
	d := &l.blocks[at]
	switch draw(8) {
	case 0:
		l.cookie = []uint64{0, 1, l.cookie - 1, l.cookie + 1, 1 << 63, l.cookie | 1<<63, math.MaxUint64}[draw(7)]
	case 1:
		l.more = draw(5) - 2
	case 2:
		d.more = draw(5) - 2
	case 3:
		d.node = uint64(draw(210))
	case 4:
		l.blocks[at], l.blocks[other] = l.blocks[other], l.blocks[at]
	case 5:
		l.blocks = slices.Insert(l.blocks, other, block{node: uint64(draw(210))})
	case 6:
		l.blocks = slices.Delete(l.blocks, at, at+1)
	case 7:
		if len(d.parts) > 0 {
			d.parts[draw(len(d.parts))].wrong(draw)
		}
	}
}

func (p *part) wrong(draw func(n int) int) {
	switch draw(5) {
	case 0:
		p.name = []string{"", ".", "..", "a/", "\x00", "x", "fine"}[draw(7)]
	case 1:
		p.node = []uint64{0, 1, 200, 201, 65535, uint64(draw(210))}[draw(6)]
	case 2:
		p.isDir = []uint64{0, 1, 2, 255}[draw(4)]
	case 3:
		p.cookie = []uint64{0, 1, p.cookie + 1, p.cookie - 1, p.cookie | 1<<63, uint64(draw(60))}[draw(6)]
	case 4:
		p.short = []uint64{0, 1, 1000000, 1000001, math.MaxUint32, p.short | 1<<31}[draw(6)]
	}
}

// P12.1: of trees that came of many calls, with some things of them changed.
func TestDecodeWrong(t *testing.T) {
	draw := drawer()
	came, none := 0, 0
	for i := range 1500 {
		tr := drawn(draw, i%30)
		for changes := range 30 {
			l := looseOf(tr)
			for range changes % 4 {
				l.wrong(draw)
			}
			if expectRead(t, l.bytes()) {
				came++
			} else {
				none++
			}
		}
		if t.Failed() {
			t.FailNow()
		}
	}
	if came < 10000 || none < 10000 {
		t.Errorf("%d have a tree, %d haven't", came, none)
	}
}

// P12.1: likewise, with some bytes changed, put in and taken out.
func TestDecodeDrawn(t *testing.T) {
	draw := drawer()
	came, none := 0, 0
	for i := range 3000 {
		whole := ruledImage(drawn(draw, i%30))
		for changes := range 20 {
			b := whole
			for range changes % 4 {
				at := draw(len(b))
				by := number(uint64([]int{draw(4), draw(256)}[draw(2)]), 1)
				b = []string{b[:at] + by + b[at:], b[:at] + b[at+1:], b[:at] + by + b[at+1:]}[draw(3)]
			}
			if expectRead(t, b) {
				came++
			} else {
				none++
			}
		}
		if t.Failed() {
			t.FailNow()
		}
	}
	if came < 10000 || none < 10000 {
		t.Errorf("%d have a tree, %d haven't", came, none)
	}
}
