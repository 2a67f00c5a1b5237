package bank_test

import (
	"slices"
	"testing"

	"toponym/api"
	"toponym/bank"
	"toponym/sector"
)

// wiped is a bank that had many records, of which so many stay: it is wiped
// from its end on, and flushed.
func wiped(t *testing.T, p place, stay ...string) (*sector.Device, int) {
	t.Helper()
	d := around(t, p)
	for frame := 1; frame < p.size; frame++ {
		write(t, d, p, frame, text(90+frame, 1+frame*13%62))
	}
	next := 1
	for _, record := range stay {
		next = write(t, d, p, next, record)
	}
	flush(t, d)
	wipe(t, d, p, next, p.size-next)
	flush(t, d)
	expectScan(t, d, p, next, stay...)
	return d, next
}

// chosen are the numbers of a subset's members.
func chosen(subset, count int) []int {
	var l []int
	for n := range count {
		if subset>>n&1 == 1 {
			l = append(l, n)
		}
	}
	return l
}

// standing is how many records have all of their frames: each is written whole,
// but for the last one, and of the pending frames those of the subset are kept.
func standing(records []string, flushed, written, subset int) int {
	frame := 0
	for n, record := range records {
		for range frames(record) {
			if frame >= written || frame >= flushed && subset>>(frame-flushed)&1 == 0 {
				return n
			}
			frame++
		}
	}
	return len(records)
}

func endOf(records []string) int {
	end := 1
	for _, record := range records {
		end += len(frames(record))
	}
	return end
}

// P7.3: behind the end of a wiped bank, with records flushed up to any, and all
// subsets of what is pending: a beginning stands, with all that were flushed.
func TestBeginningStands(t *testing.T) {
	stays := [][]string{nil, {"old"}, {text(7, 63), "old"}}
	records := []string{text(1, 1), text(2, 150), text(3, 62), text(4, 100), text(5, 9)}
	for _, stay := range stays {
		p := place{2, 12}
		for flushed := range len(records) + 1 {
			pending := endOf(records) - endOf(records[:flushed])
			for subset := range 1 << pending {
				d, next := wiped(t, p, stay...)
				for n, record := range records {
					if n == flushed {
						flush(t, d)
					}
					next = write(t, d, p, next, record)
				}
				if flushed == len(records) {
					flush(t, d)
				}
				expectPending(t, d, pending)
				d.Restart(chosen(subset, pending)...)
				stand := standing(records, endOf(records[:flushed])-1, endOf(records)-1, subset)
				if stand < flushed {
					t.Fatalf("%d records stand of %d that were flushed", stand, flushed)
				}
				want := slices.Concat(stay, records[:stand])
				expectScan(t, d, p, endOf(want), want...)
			}
		}
	}
}

// P7.3: the like where power goes on the way, at any write.
func TestBeginningStandsCut(t *testing.T) {
	p := place{1, 11}
	stay := []string{"old"}
	records := []string{text(1, 70), text(2, 1), text(3, 130), text(4, 62), text(5, 63)}
	for flushed := range 3 {
		ahead := endOf(records[:flushed]) - 1
		for cut := range endOf(records) - ahead {
			for subset := range 1 << cut {
				d, next := wiped(t, p, stay...)
				for _, record := range records[:flushed] {
					next = write(t, d, p, next, record)
				}
				flush(t, d)
				d.Cut(cut)
				writeTillLost(t, d, p, next, records[flushed:])
				expectPending(t, d, cut)
				d.Restart(chosen(subset, cut)...)
				stand := standing(records, ahead, ahead+cut, subset)
				want := slices.Concat(stay, records[:stand])
				expectScan(t, d, p, endOf(want), want...)
			}
		}
	}
}

func writeTillLost(t *testing.T, d *sector.Device, p place, at int, records []string) {
	t.Helper()
	for _, record := range records {
		next, err := bank.Write(d, p.from, p.size, at, record)
		if err == api.ErrLost {
			return
		}
		if err != api.OK {
			t.Fatalf("Write at %d = %d", at, err)
		}
		at = next
	}
}

// P7.3: a loss, a wipe from the end on, and further records, over and over: what
// was lost never comes again.
func TestBeginningStandsAgain(t *testing.T) {
	p := place{3, 30}
	draw := drawer()
	for round := range 200 {
		d, next := wiped(t, p)
		var stay []string
		for seed := range 6 {
			var records []string
			for range 1 + draw(3) {
				record := text(round*6+seed, 1+draw(130))
				if next+len(frames(record)) > p.size {
					break
				}
				records = append(records, record)
				next = write(t, d, p, next, record)
			}
			pending, subset := d.Pending(), draw(1<<15)
			d.Restart(chosen(subset, pending)...)
			stay = append(stay, records[:standing(records, 0, pending, subset)]...)
			expectScan(t, d, p, endOf(stay), stay...)
			next = endOf(stay)
			if err := bank.Wipe(d, p.from, p.size, next); err != api.OK {
				t.Fatal(err)
			}
			flush(t, d)
			expectScan(t, d, p, next, stay...)
		}
	}
}
