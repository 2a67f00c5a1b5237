package sector_test

import (
	"slices"
	"testing"

	"toponym/api"
	"toponym/sector"
)

type written struct {
	at    int
	bytes string
}

// ruled says the chapter over again, as lists of writes: what is in a sector is
// the last write there.
type ruled struct {
	size    int
	made    []written
	pending []written
	writes  int
	cutAt   int
}

func newRuled(size int) *ruled {
	return &ruled{size: size, cutAt: -1}
}

func (r *ruled) gone() bool {
	return r.writes == r.cutAt
}

func (r *ruled) get(i int) (string, api.Errno) {
	if r.gone() {
		return "", api.ErrLost
	}
	if i < 0 || i >= r.size {
		return "", api.ErrArg
	}
	all := slices.Concat([]written{{i, noughts()}}, r.made, r.pending)
	for n := len(all) - 1; ; n-- {
		if all[n].at == i {
			return all[n].bytes, api.OK
		}
	}
}

func (r *ruled) put(i int, b string) api.Errno {
	if _, err := r.get(i); err != api.OK {
		return err
	}
	if len(b) != api.Sector {
		return api.ErrArg
	}
	r.pending = append(r.pending, written{i, b})
	r.writes++
	return api.OK
}

func (r *ruled) flush() api.Errno {
	if r.gone() {
		return api.ErrLost
	}
	r.made = append(r.made, r.pending...)
	r.pending = nil
	return api.OK
}

func (r *ruled) cut(writes int) {
	if r.gone() {
		return
	}
	r.cutAt = -1
	if writes >= 0 {
		r.cutAt = r.writes + writes
	}
}

func (r *ruled) restart(kept []int) {
	for n, w := range r.pending {
		if slices.Contains(kept, n) {
			r.made = append(r.made, w)
		}
	}
	r.pending = nil
	r.cutAt = -1
}

// call is done to a device and to what the chapter says; n is its place in a
// row, so that no two writes are the same.
type call struct {
	name string
	do   func(t *testing.T, d *sector.Device, r *ruled, n int)
}

func putCall(name string, i int) call {
	return call{name, func(t *testing.T, d *sector.Device, r *ruled, n int) {
		expectPut(t, d, i, marked(n+1), r.put(i, marked(n+1)))
	}}
}

func cutCall(name string, writes int) call {
	return call{name, func(t *testing.T, d *sector.Device, r *ruled, n int) {
		d.Cut(writes)
		r.cut(writes)
	}}
}

func restartCall(name string, kept ...int) call {
	return call{name, func(t *testing.T, d *sector.Device, r *ruled, n int) {
		d.Restart(kept...)
		r.restart(kept)
	}}
}

func flushCall() call {
	return call{"Flush", func(t *testing.T, d *sector.Device, r *ruled, n int) {
		expectFlush(t, d, r.flush())
	}}
}

func wrongPutCall() call {
	return call{"Put 0 wrong", func(t *testing.T, d *sector.Device, r *ruled, n int) {
		expectPut(t, d, 0, "", r.put(0, ""))
	}}
}

func calls() []call {
	return []call{
		putCall("Put 0", 0),
		putCall("Put 1", 1),
		putCall("Put 2", 2),
		wrongPutCall(),
		flushCall(),
		cutCall("Cut 0", 0),
		cutCall("Cut 1", 1),
		cutCall("Cut 2", 2),
		cutCall("Cut -1", -1),
		restartCall("Restart"),
		restartCall("Restart 0", 0),
		restartCall("Restart 1 0 1", 1, 0, 1),
		restartCall("Restart 1 2 -1 9", 1, 2, -1, 9),
	}
}

func expectRuled(t *testing.T, d *sector.Device, r *ruled) {
	t.Helper()
	expectSize(t, d, r.size)
	expectPending(t, d, len(r.pending))
	for i := -1; i <= r.size; i++ {
		want, err := r.get(i)
		if b, e := d.Get(i); b != want || e != err {
			t.Errorf("Get(%d) = % x, %d; want % x, %d", i, b, e, want, err)
		}
	}
}

func expectRow(t *testing.T, all []call, row []int) {
	t.Helper()
	d, r := sector.New(2), newRuled(2)
	for n, c := range row {
		all[c].do(t, d, r, n)
		expectRuled(t, d, r)
	}
	if t.Failed() {
		for _, c := range row {
			t.Log(all[c].name)
		}
		t.FailNow()
	}
}

// P6.1, P6.2, P6.3: all rows of up to four calls, on two sectors.
func TestRows(t *testing.T) {
	all := calls()
	rows := [][]int{nil}
	for next := 0; next < len(rows); next++ {
		row := rows[next]
		expectRow(t, all, row)
		if len(row) == 4 {
			continue
		}
		for c := range all {
			rows = append(rows, append(slices.Clone(row), c))
		}
	}
}

// P6.1, P6.2, P6.3: long rows, whose calls a small sum picks.
func TestLongRows(t *testing.T) {
	all := calls()
	state := uint32(1)
	for range 2000 {
		row := make([]int, 60)
		for n := range row {
			state = state*1664525 + 1013904223
			row[n] = int(state>>16) % len(all)
		}
		expectRow(t, all, row)
	}
}
