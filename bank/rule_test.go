package bank_test

import (
	"slices"
	"strings"
	"testing"

	"toponym/api"
	"toponym/bank"
	"toponym/sector"
)

// ruledRecord says over again what stands at the first of these frames, byte by
// byte.
func ruledRecord(frames []string) (string, bool) {
	if len(frames) == 0 {
		return "", false
	}
	left := int(frames[0][0])*256 + int(frames[0][1])
	if left == 0 || left > api.MaxImage {
		return "", false
	}
	record := ""
	for _, frame := range frames {
		if int(frame[0])*256+int(frame[1]) != left {
			return "", false
		}
		if left <= 62 {
			return record + frame[2:2+left], strings.Trim(frame[2+left:], "\x00") == ""
		}
		record += frame[2:]
		left -= 62
	}
	return "", false
}

func ruledScan(frames []string) ([]string, int) {
	var records []string
	end := 1
	for {
		record, stands := ruledRecord(frames[end-1:])
		if !stands {
			return records, end
		}
		records = append(records, record)
		end += (len(record) + 61) / 62
	}
}

// bits are frames that go with one another, and some that go with none.
func bits() []string {
	a, b := text(1, 63), text(2, 130)
	return []string{
		noughts(),
		framed(1, "a"),
		framed(1, "\x00"),
		framed(1, "ab"),
		framed(62, text(3, 62)),
		framed(63, a[:62]),
		framed(130, b[:62]),
		framed(68, b[62:124]),
		framed(6, b[124:]),
		framed(6, b[124:]+strings.Repeat("\x00", 55)+"x"),
		framed(0, a[:62]),
		framed(124, a[:62]),
		framed(125, a[:62]),
		framed(api.MaxImage, a[:62]),
		framed(api.MaxImage+1, a[:62]),
	}
}

// P7.1: all rows of up to four frames of some, in banks that end with them, or
// behind them.
func TestScanRows(t *testing.T) {
	all := bits()
	d := sector.New(7)
	rows := [][]string{nil}
	for next := 0; next < len(rows); next++ {
		row := rows[next]
		for i := range 5 {
			frame := noughts()
			if i < len(row) {
				frame = row[i]
			}
			put(t, d, 2+i, frame)
		}
		flush(t, d)
		want, end := ruledScan(row)
		expectScan(t, d, place{1, 1 + len(row)}, end, want...)
		want, end = ruledScan(append(slices.Clone(row), noughts()))
		expectScan(t, d, place{1, 2 + len(row)}, end, want...)
		if t.Failed() {
			t.Fatalf("frames %x", row)
		}
		if len(row) == 4 {
			continue
		}
		for _, b := range all {
			rows = append(rows, append(slices.Clone(row), b))
		}
	}
}

// P7.1: each byte of three records' frames, changed to any other.
func TestScanOneByte(t *testing.T) {
	p := place{1, 8}
	stand := slices.Concat(frames(text(1, 70)), frames(text(2, 130)), frames(text(3, 20)))
	d := with(t, p, stand...)
	for i, frame := range stand {
		for at := range api.Sector {
			for by := 1; by < 256; by++ {
				b := []byte(frame)
				b[at] ^= byte(by)
				put(t, d, p.from+1+i, string(b))
				changed := append(slices.Clone(stand), noughts())
				changed[i] = string(b)
				want, end := ruledScan(changed)
				expectScan(t, d, p, end, want...)
				if t.Failed() {
					t.Fatalf("byte %d of the frame %d: %x", at, 1+i, b[at])
				}
			}
		}
		put(t, d, p.from+1+i, frame)
		flush(t, d)
	}
}

// ruled is a device's sectors as the chapter has them, and how many writes that
// takes.
type ruled struct {
	sectors []string
	writes  int
}

func (r *ruled) put(i int, b string) {
	r.sectors[i] = b
	r.writes++
}

func (r *ruled) isBank(p place) bool {
	return p.size >= 1 && p.from >= 0 && p.from+p.size <= len(r.sectors)
}

func (r *ruled) write(p place, at int, record string) (int, api.Errno) {
	if !r.isBank(p) || at < 1 {
		return 0, api.ErrArg
	}
	if record == "" || len(record) > api.MaxImage {
		return 0, api.ErrLong
	}
	next := at + len(frames(record))
	if next > p.size {
		return 0, api.ErrFull
	}
	for i, frame := range frames(record) {
		r.put(p.from+at+i, frame)
	}
	return next, api.OK
}

func (r *ruled) wipe(p place, at int) api.Errno {
	if !r.isBank(p) {
		return api.ErrArg
	}
	for frame := 1; frame < p.size; frame++ {
		if frame >= at && r.sectors[p.from+frame] != noughts() {
			r.put(p.from+frame, noughts())
		}
	}
	return api.OK
}

func (r *ruled) scan(p place) ([]string, int, api.Errno) {
	if !r.isBank(p) {
		return nil, 0, api.ErrArg
	}
	l, end := ruledScan(r.sectors[p.from+1 : p.from+p.size])
	return l, end, api.OK
}

func expectRuled(t *testing.T, d *sector.Device, r *ruled) {
	t.Helper()
	expectPending(t, d, r.writes)
	for i, b := range r.sectors {
		expectSector(t, d, i, b)
	}
}

// P7.1: long rows of calls, in banks that lie within one another, too.
func TestRows(t *testing.T) {
	draw := drawer()
	for range 500 {
		d, r := sector.New(12), &ruled{sectors: slices.Repeat([]string{noughts()}, 12)}
		for n := range 40 {
			p, at := place{draw(8) - 1, draw(9) - 1}, draw(9)-1
			switch draw(5) {
			case 0:
				err := bank.Wipe(d, p.from, p.size, at)
				if want := r.wipe(p, at); err != want {
					t.Errorf("Wipe(%d, %d, %d) = %d; want %d", p.from, p.size, at, err, want)
				}
			case 1:
				l, end, err := bank.Scan(d, p.from, p.size)
				if wantL, wantEnd, want := r.scan(p); !slices.Equal(l, wantL) || end != wantEnd || err != want {
					t.Errorf("Scan(%d, %d) = %q, %d, %d; want %q, %d, %d", p.from, p.size, l, end, err, wantL, wantEnd, want)
				}
			default:
				record := text(n, draw(4)*62+draw(3))
				next, err := bank.Write(d, p.from, p.size, at, record)
				if wantNext, want := r.write(p, at, record); next != wantNext || err != want {
					t.Errorf("Write(%d, %d, %d, %d bytes) = %d, %d; want %d, %d", p.from, p.size, at, len(record), next, err, wantNext, want)
				}
			}
			expectRuled(t, d, r)
			if t.Failed() {
				t.FailNow()
			}
		}
	}
}
