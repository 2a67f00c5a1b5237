package vault_test

import (
	"encoding/binary"
	"slices"
	"strings"
	"testing"

	"toponym/api"
	"toponym/sector"
	"toponym/vault"
)

// op is a sector that is written, or, of a number below 0, a flush.
type op struct {
	at    int
	bytes string
}

func flushOp() op {
	return op{at: -1}
}

func played(d *sector.Device, ops []op) api.Errno {
	for _, o := range ops {
		err := api.OK
		if o.at < 0 {
			err = d.Flush()
		} else {
			err = d.Put(o.at, o.bytes)
		}
		if err != api.OK {
			return err
		}
	}
	return api.OK
}

func wipeOps(d *sector.Device, from, size, end int) []op {
	var ops []op
	for i, b := range sectorsOf(d)[from+end : from+size] {
		if b != noughts() {
			ops = append(ops, op{from + end + i, noughts()})
		}
	}
	return ops
}

func writeOps(at int, record string) []op {
	var ops []op
	for i, b := range frames(record) {
		ops = append(ops, op{at + i, b})
	}
	return ops
}

func fits(record string, room int) api.Errno {
	if record == "" || len(record) > api.MaxImage {
		return api.ErrLong
	}
	if len(frames(record)) > room {
		return api.ErrFull
	}
	return api.OK
}

func asked(d *sector.Device) api.Errno {
	if _, err := d.Get(0); err == api.ErrLost {
		return err
	}
	if d.Size() < 4 {
		return api.ErrArg
	}
	return api.OK
}

func ruledFormat(d *sector.Device, image string) api.Errno {
	if err := asked(d); err != api.OK {
		return err
	}
	size := d.Size() / 2
	if err := fits(image, size-1); err != api.OK {
		return err
	}
	return played(d, slices.Concat(
		[]op{{0, noughts()}, {size, noughts()}, flushOp()},
		wipeOps(d, 0, size, 1), wipeOps(d, size, size, 1), writeOps(1, image), []op{flushOp()},
		[]op{{0, head(1)}, flushOp()},
	))
}

// ruled says the chapter over again, on a device of its own that has the same
// losses.
type ruled struct {
	d       *sector.Device
	from    int
	end     int
	epoch   uint64
	image   string
	records []string
	over    bool
}

func ruledEpoch(b string) uint64 {
	epoch := binary.BigEndian.Uint64([]byte(b[:8]))
	if b != head(epoch) {
		return 0
	}
	return epoch
}

// ruledRecord is what stands at the first of these frames.
func ruledRecord(frames []string) string {
	record := ""
	for i, frame := range frames {
		left := int(frame[0])*256 + int(frame[1])
		first := int(frames[0][0])*256 + int(frames[0][1])
		if left == 0 || first > api.MaxImage || left != first-62*i {
			return ""
		}
		if left <= 62 {
			if strings.Trim(frame[2+left:], "\x00") != "" {
				return ""
			}
			return record + frame[2:2+left]
		}
		record += frame[2:]
	}
	return ""
}

func ruledOpen(d *sector.Device) (*ruled, api.Errno) {
	if err := asked(d); err != api.OK {
		return nil, err
	}
	l, size := sectorsOf(d), d.Size()/2
	r := &ruled{d: d, epoch: ruledEpoch(l[0])}
	if second := ruledEpoch(l[size]); second > r.epoch {
		r.from, r.epoch = size, second
	}
	if r.epoch == 0 {
		return nil, api.ErrForm
	}
	var records []string
	for r.end = 1; ; r.end += len(frames(records[len(records)-1])) {
		record := ruledRecord(l[r.from+r.end : r.from+size])
		if record == "" {
			break
		}
		records = append(records, record)
	}
	if len(records) == 0 {
		return nil, api.ErrForm
	}
	r.image, r.records = records[0], records[1:]
	if err := played(d, append(wipeOps(d, r.from, size, r.end), flushOp())); err != api.OK {
		return nil, err
	}
	return r, api.OK
}

func (r *ruled) room() int {
	return r.d.Size()/2 - r.end
}

// powered is asked ahead of all else, and met once for all.
func (r *ruled) powered() api.Errno {
	if r.over || asked(r.d) == api.ErrLost {
		r.over = true
		return api.ErrLost
	}
	return api.OK
}

func (r *ruled) do(ops ...op) api.Errno {
	err := played(r.d, ops)
	r.over = err == api.ErrLost
	return err
}

func (r *ruled) append(record string) api.Errno {
	if err := r.powered(); err != api.OK {
		return err
	}
	if err := fits(record, r.room()); err != api.OK {
		return err
	}
	err := r.do(writeOps(r.from+r.end, record)...)
	if err == api.OK {
		r.end += len(frames(record))
		r.records = append(r.records, record)
	}
	return err
}

func (r *ruled) sync() api.Errno {
	if err := r.powered(); err != api.OK {
		return err
	}
	return r.do(flushOp())
}

func (r *ruled) renew(image string) api.Errno {
	if err := r.powered(); err != api.OK {
		return err
	}
	size := r.d.Size() / 2
	other := size - r.from
	if err := fits(image, size-1); err != api.OK {
		return err
	}
	if r.epoch >= 1<<63 {
		return api.ErrMany
	}
	err := r.do(slices.Concat(
		[]op{{other, noughts()}, flushOp()},
		wipeOps(r.d, other, size, 1), writeOps(other+1, image), []op{flushOp()},
		[]op{{other, head(r.epoch + 1)}, flushOp()},
	)...)
	if err == api.OK {
		*r = ruled{d: r.d, from: other, end: 1 + len(frames(image)), epoch: r.epoch + 1, image: image}
	}
	return err
}

// pair is a vault, and what the chapter says of it; both are nil till one was
// opened.
type pair struct {
	d, e *sector.Device
	v    *vault.Vault
	r    *ruled
}

func (p *pair) expect(t *testing.T) {
	t.Helper()
	expectPending(t, p.d, p.e.Pending())
	if l, want := sectorsOf(p.d), sectorsOf(p.e); !slices.Equal(l, want) {
		t.Errorf("sectors % x; want % x", l, want)
	}
	if p.v == nil {
		return
	}
	expectKept(t, p.v, p.r.room(), p.r.image, p.r.records...)
	if p.v.Over() != p.r.over {
		t.Errorf("Over() = %t; want %t", p.v.Over(), p.r.over)
	}
}

// turn is one of a row: it is done to both.
type turn struct {
	name string
	do   func(t *testing.T, p *pair)
}

func turnFormat(image string) turn {
	return turn{"Format", func(t *testing.T, p *pair) {
		expect(t, "Format", vault.Format(p.d, image), ruledFormat(p.e, image))
	}}
}

func turnOpen() turn {
	return turn{"Open", func(t *testing.T, p *pair) {
		v, err := vault.Open(p.d)
		r, want := ruledOpen(p.e)
		expect(t, "Open", err, want)
		if (v == nil) != (r == nil) {
			t.Fatalf("Open = %v, %d", v, err)
		}
		if v != nil {
			p.v, p.r = v, r
		}
	}}
}

func turnAppend(record string) turn {
	return turn{"Append", func(t *testing.T, p *pair) {
		if p.v != nil {
			expect(t, "Append", p.v.Append(record), p.r.append(record))
		}
	}}
}

func turnSync() turn {
	return turn{"Sync", func(t *testing.T, p *pair) {
		if p.v != nil {
			expect(t, "Sync", p.v.Sync(), p.r.sync())
		}
	}}
}

func turnRenew(image string) turn {
	return turn{"Renew", func(t *testing.T, p *pair) {
		if p.v != nil {
			expect(t, "Renew", p.v.Renew(image), p.r.renew(image))
		}
	}}
}

func turnCut(writes int) turn {
	return turn{"Cut", func(t *testing.T, p *pair) {
		p.d.Cut(writes)
		p.e.Cut(writes)
	}}
}

func turnRestart(kept ...int) turn {
	return turn{"Restart", func(t *testing.T, p *pair) {
		p.d.Restart(kept...)
		p.e.Restart(kept...)
	}}
}

func turnPut(at int, b string) turn {
	return turn{"Put", func(t *testing.T, p *pair) {
		expect(t, "Put", p.d.Put(at, b), p.e.Put(at, b))
	}}
}

func expectTurns(t *testing.T, size int, turns []turn) {
	t.Helper()
	p := &pair{d: sector.New(size), e: sector.New(size)}
	for n, u := range turns {
		u.do(t, p)
		p.expect(t)
		if t.Failed() {
			for _, u := range turns[:n+1] {
				t.Log(u.name)
			}
			t.FailNow()
		}
	}
}

// P8.1, P8.2: all rows of up to three turns behind a vault's opening, with power
// and without.
func TestTurns(t *testing.T) {
	all := []turn{
		turnFormat("f"), turnFormat(text(1, 187)), turnOpen(),
		turnAppend("a"), turnAppend(text(2, 63)), turnAppend(""), turnSync(),
		turnRenew("r"), turnRenew(text(3, 130)), turnRenew(text(4, 187)),
		turnCut(0), turnCut(1), turnCut(3), turnCut(-1), turnRestart(), turnRestart(0, 2), turnRestart(0, 1, 2, 3, 4, 5),
		turnPut(0, head(2)), turnPut(4, head(9)), turnPut(2, framed(1, "p")), turnPut(1, noughts()),
	}
	begin := []turn{turnFormat("i"), turnOpen()}
	for _, a := range all {
		for _, b := range all {
			for _, c := range all {
				expectTurns(t, 9, append(slices.Clone(begin), a, b, c))
			}
		}
	}
}

// P8.1, P8.2: long rows, on devices of any size, whose turns a small sum picks.
func TestLongTurns(t *testing.T) {
	draw := drawer()
	for range 2000 {
		size := draw(22)
		turns := []turn{turnFormat(text(draw(9), 1+draw(70))), turnOpen()}
		for range 50 {
			turns = append(turns, drawnTurn(draw, size))
		}
		expectTurns(t, size, turns)
	}
}

func drawnTurn(draw func(int) int, size int) turn {
	record := text(draw(100), draw(4)*62+draw(3))
	switch draw(16) {
	case 0:
		return turnFormat(record)
	case 1, 2:
		return turnOpen()
	case 3:
		return turnSync()
	case 4, 5, 6:
		return turnRenew(record)
	case 7:
		return turnCut(draw(30) - 1)
	case 8, 9:
		return turnRestart(chosen(draw(1<<15), 15)...)
	case 10:
		return turnPut(draw(size+1), []string{noughts(), framed(1, "p"), head(uint64(draw(5))), head(1 << 63), head(1<<63 - 1)}[draw(5)])
	default:
		return turnAppend(record)
	}
}
