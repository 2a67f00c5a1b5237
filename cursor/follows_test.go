package cursor_test

import (
	"slices"
	"testing"

	"toponym/api"
	"toponym/cursor"
)

// rest goes on in bits of these sizes, one after the other and over again, till
// nothing comes.
func rest(t *testing.T, l []api.Entry, at int64, sizes ...int) []api.Entry {
	t.Helper()
	var came []api.Entry
	for bit := 0; ; bit++ {
		batch, next, err := cursor.Read(l, at, sizes[bit%len(sizes)])
		if err != api.OK || bit > len(l) {
			t.Fatalf("Read(%s, %d, %d) = %s, %d, %d, the bit %d", shown(l), at, sizes[bit%len(sizes)], shown(batch), next, err, bit)
		}
		if len(batch) == 0 {
			return came
		}
		came, at = append(came, batch...), next
	}
}

// P16.2: who goes on from 0 reads all entries in their order, each once: of
// lists of whatever length, in bits of whatever size.
func TestGoOn(t *testing.T) {
	for length := range 201 {
		l := rising(upTo(length, 5)...)
		for n := 1; n <= api.MaxBatch; n++ {
			if came := rest(t, l, 0, n); !slices.Equal(came, l) {
				t.Fatalf("of %d entries, %d by %d, there came %s", length, n, n, shown(came))
			}
		}
	}
}

// P16.2: likewise from any cursor on, what is above it.
func TestGoOnFrom(t *testing.T) {
	l := rising(upTo(100, 5)...)
	for _, n := range []int{1, 2, 7, 33, 63, 64} {
		for at := range int64(510) {
			if came := rest(t, l, at, n); !slices.Equal(came, l[min(at/5, 100):]) {
				t.Fatalf("from %d on, %d by %d, there came %s", at, n, n, shown(came))
			}
		}
	}
}

// P16.2: all rows of five sizes, and, of many entries, sizes that are drawn.
func TestGoOnInSizes(t *testing.T) {
	l := rising(2, 3, 4, 10, 11, 100, 101)
	row := make([]int, 5)
	for i := range 8 * 8 * 8 * 8 * 8 {
		for j := range row {
			row[j] = 1 + i>>(3*j)&7
		}
		if came := rest(t, l, 0, row...); !slices.Equal(came, l) {
			t.Fatalf("by %d there came %s", row, shown(came))
		}
	}
	draw := drawer()
	for range 1000 {
		l := drawnList(draw, draw(300), 30)
		sizes := []int{1 + draw(64), 1 + draw(64), 1 + draw(9), 1 + draw(9)}
		if came := rest(t, l, 0, sizes...); !slices.Equal(came, l) {
			t.Fatalf("by %d of %s there came %s", sizes, shown(l), shown(came))
		}
	}
}

// P16.2: who stands at an entry that is gone goes on with what is behind it, and
// who stands at the last one with what came since.
func TestGoOnBehindGone(t *testing.T) {
	l := rising(2, 5, 9, 12)
	for gone := range l {
		left := slices.Delete(slices.Clone(l), gone, gone+1)
		if came := rest(t, left, l[gone].Cookie, 1); !slices.Equal(came, l[gone+1:]) {
			t.Errorf("behind %d there came %s", l[gone].Cookie, shown(came))
		}
		if came := rest(t, left[gone:], l[gone].Cookie, 2); !slices.Equal(came, l[gone+1:]) {
			t.Errorf("where all ahead is gone, there came %s", shown(came))
		}
		if came := rest(t, l[:gone], l[gone].Cookie, 1); len(came) != 0 {
			t.Errorf("where all is gone, there came %s", shown(came))
		}
	}
	more := append(slices.Clone(l), rising(12, 13, 14)[1:]...)
	expectRead(t, l, 12, 3, 12)
	expectRead(t, more, 12, 3, 14, more[4:]...)
	expectRead(t, more[4:], 12, 1, 13, more[4])
}
