package deed_test

import (
	"encoding/binary"
	"testing"

	"toponym/api"
	"toponym/deed"
)

func isOut(n, most int) bool {
	return n < 0 || n > most
}

func ruledName(b []byte, name string) []byte {
	return append(append(b, byte(len(name))), name...)
}

// ruledEncode says the chapter over again, kind by kind.
func ruledEncode(d deed.Deed) (string, api.Errno) {
	if isOut(d.Dir, 65535) || isOut(d.To, 65535) || isOut(d.Short, 1000000) || isOut(len(d.Name), 255) || isOut(len(d.As), 255) {
		return "", api.ErrArg
	}
	is := byte(0)
	if d.IsDir {
		is = 1
	}
	b := ruledName(binary.BigEndian.AppendUint16([]byte{byte(d.Kind)}, uint16(d.Dir)), d.Name)
	switch {
	case d == aLink(d.Dir, d.Name, d.IsDir, d.Short):
		return string(binary.BigEndian.AppendUint32(append(b, is), uint32(d.Short))), api.OK
	case d == anUnlink(d.Dir, d.Name, d.IsDir):
		return string(append(b, is)), api.OK
	case d == aMove(d.Dir, d.Name, d.To, d.As, d.Short):
		b = ruledName(binary.BigEndian.AppendUint16(b, uint16(d.To)), d.As)
		return string(binary.BigEndian.AppendUint32(b, uint32(d.Short))), api.OK
	}
	return "", api.ErrArg
}

// ruledReader panics with itself at the first byte that isn't there, or isn't
// so.
type ruledReader struct {
	rest string
}

func (r *ruledReader) need(is bool) {
	if !is {
		panic(r)
	}
}

func (r *ruledReader) bytes(n int) string {
	r.need(n <= len(r.rest))
	b := r.rest[:n]
	r.rest = r.rest[n:]
	return b
}

func (r *ruledReader) two() int {
	return int(binary.BigEndian.Uint16([]byte(r.bytes(2))))
}

func (r *ruledReader) name() string {
	return r.bytes(int(r.bytes(1)[0]))
}

func (r *ruledReader) isDir() bool {
	b := r.bytes(1)[0]
	r.need(b == 0 || b == 1)
	return b == 1
}

func (r *ruledReader) short() int {
	n := binary.BigEndian.Uint32([]byte(r.bytes(4)))
	r.need(n <= 1000000)
	return int(n)
}

func ruledDecode(b string) (d deed.Deed, err api.Errno) {
	r := &ruledReader{b}
	defer func() {
		if p := recover(); p != nil {
			if p != any(r) {
				panic(p)
			}
			d, err = deed.Deed{}, api.ErrForm
		}
	}()
	kind := r.bytes(1)[0]
	dir := r.two()
	name := r.name()
	switch kind {
	case 1:
		isDir := r.isDir()
		d = aLink(dir, name, isDir, r.short())
	case 2:
		d = anUnlink(dir, name, r.isDir())
	case 3:
		to := r.two()
		as := r.name()
		d = aMove(dir, name, to, as, r.short())
	default:
		r.need(false)
	}
	r.need(r.rest == "")
	return d, api.OK
}

// expectRuled holds Encode against the chapter, and Decode of what came of it
// against what was encoded.
func expectRuled(t *testing.T, d deed.Deed) {
	t.Helper()
	want, wantErr := ruledEncode(d)
	b, err := deed.Encode(d)
	if b != want || err != wantErr {
		t.Fatalf("Encode(%#v) = % x, %d; want % x, %d", d, b, err, want, wantErr)
	}
	if err == api.OK {
		expectDeed(t, b, d)
	}
}

// expectRead holds Decode against the chapter, and Encode of what came of it
// against what was decoded; it tells whether there is such a deed.
func expectRead(t *testing.T, b string) bool {
	t.Helper()
	want, wantErr := ruledDecode(b)
	d, err := deed.Decode(b)
	if d != want || err != wantErr {
		t.Fatalf("Decode(% x) = %#v, %d; want %#v, %d", b, d, err, want, wantErr)
	}
	if err == api.OK {
		expectBytes(t, d, b)
	}
	return err == api.OK
}

// drawer picks numbers below n by a small sum.
func drawer() func(n int) int {
	state := uint32(1)
	return func(n int) int {
		state = state*1664525 + 1013904223
		return int(state>>8) % n
	}
}

// drawnName is often at an edge, and of any bytes.
func drawnName(draw func(n int) int) string {
	size := []int{0, 1, 2, 3 + draw(20), draw(256), 254, 255, 256 + draw(2)}[draw(8)]
	b := make([]byte, size)
	for i := range b {
		b[i] = byte(draw(256))
	}
	return string(b)
}

// drawn is mostly of what its kind has, with now and then something else.
func drawn(draw func(n int) int) deed.Deed {
	node := func() int {
		return []int{0, draw(201), draw(65536), 65535, 65535 + draw(2), -draw(2)}[draw(6)]
	}
	short := []int{0, draw(1000001), 1000000 + draw(2), -draw(2), 1 << draw(20)}[draw(5)]
	d := []deed.Deed{
		aLink(node(), drawnName(draw), draw(2) == 0, short),
		anUnlink(node(), drawnName(draw), draw(2) == 0),
		aMove(node(), drawnName(draw), node(), drawnName(draw), short),
	}[draw(3)]
	switch draw(12) {
	case 0:
		d.To = node()
	case 1:
		d.As = drawnName(draw)
	case 2:
		d.Short = short
	case 3:
		d.IsDir = true
	case 4:
		d.Kind = draw(6) - 1
	}
	return d
}

// P11.1, P11.3: of many deeds, right and wrong.
func TestDrawn(t *testing.T) {
	draw := drawer()
	came := map[api.Errno]int{}
	for range 100000 {
		d := drawn(draw)
		expectRuled(t, d)
		_, err := deed.Encode(d)
		came[err]++
	}
	if came[api.OK] < 20000 || came[api.ErrArg] < 20000 || len(came) != 2 {
		t.Errorf("there came %v", came)
	}
}
