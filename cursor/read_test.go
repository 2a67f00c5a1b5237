package cursor_test

import (
	"math"
	"slices"
	"testing"

	"toponym/api"
)

// P16.1: ErrArg, if n isn't from 1 to MaxBatch, of whatever list, and wherever
// the cursor is.
func TestNoCount(t *testing.T) {
	for _, l := range lists() {
		for _, n := range noCounts() {
			for _, at := range []int64{0, 1, 2, 5, 9, 1000, math.MaxInt64} {
				expectNoRead(t, l, at, n, api.ErrArg)
			}
		}
	}
}

// P16.1: ErrCursor, if the cursor is below 0, of whatever list, with each n that
// may be.
func TestNoCursor(t *testing.T) {
	for _, l := range lists() {
		for _, at := range noCursors() {
			for n := 1; n <= api.MaxBatch; n++ {
				expectNoRead(t, l, at, n, api.ErrCursor)
			}
		}
	}
}

// P16.1: where both are bad, it is ErrArg.
func TestCountAheadOfCursor(t *testing.T) {
	for _, l := range lists() {
		for _, at := range noCursors() {
			for _, n := range noCounts() {
				expectNoRead(t, l, at, n, api.ErrArg)
			}
		}
	}
}

// P16.1: each n that may be, and lists of no entry, one, as many as n, one fewer
// and one more, and many.
func TestCounts(t *testing.T) {
	for n := 1; n <= api.MaxBatch; n++ {
		for _, length := range []int{0, 1, n - 1, n, n + 1, 2 * n, 200} {
			l := rising(upTo(length, 3)...)
			come := min(n, length)
			expectRead(t, l, 0, n, int64(come)*3, l[:come]...)
		}
	}
}

// P16.1: a cursor below the first cookie, of each cookie, between two, and above
// the last one.
func TestCursors(t *testing.T) {
	l := rising(upTo(130, 3)...)
	for _, n := range []int{1, 2, 3, 63, 64} {
		for at := range int64(400) {
			behind := l[min(at/3, 130):]
			want := behind[:min(n, len(behind))]
			next := at
			if len(want) > 0 {
				next = want[len(want)-1].Cookie
			}
			expectRead(t, l, at, n, next, want...)
		}
	}
}

// P16.1: of nothing above the cursor the next cursor is the one that was given.
func TestNothingComes(t *testing.T) {
	for _, n := range []int{1, 2, 64} {
		for _, at := range []int64{0, 1, 9, 10, math.MaxInt32, 1 << 40, math.MaxInt64 - 1, math.MaxInt64} {
			expectRead(t, nil, at, n, at)
			expectRead(t, []api.Entry{}, at, n, at)
			if at >= 9 {
				expectRead(t, rising(9), at, n, at)
				expectRead(t, rising(2, 5, 9), at, n, at)
			}
		}
		expectRead(t, rising(math.MaxInt64), math.MaxInt64, n, math.MaxInt64)
		expectRead(t, rising(math.MaxInt64-1), math.MaxInt64, n, math.MaxInt64)
	}
}

// P16.1: the greatest numbers, and such as differ by their upper bits alone.
func TestGreatNumbers(t *testing.T) {
	l := rising(1, math.MaxInt32, 1<<31, 1<<32-1, 1<<32, 1<<32+1, 1<<53, 1<<53+1, 1<<62, math.MaxInt64-1, math.MaxInt64)
	expectRead(t, l, 0, 64, math.MaxInt64, l...)
	for i, e := range l {
		expectRead(t, l, e.Cookie-1, 1, e.Cookie, e)
		if i+1 < len(l) {
			expectRead(t, l, e.Cookie, 1, l[i+1].Cookie, l[i+1])
			expectRead(t, l, e.Cookie, 64, math.MaxInt64, l[i+1:]...)
		}
	}
	expectRead(t, rising(math.MaxInt64), 0, 1, math.MaxInt64, rising(math.MaxInt64)...)
	expectRead(t, rising(math.MaxInt64), math.MaxInt64-1, 1, math.MaxInt64, rising(math.MaxInt64)...)
	expectRead(t, rising(1), math.MaxInt64-1, 1, math.MaxInt64-1)
}

// P16.1: no cursor has an entry above it whose cookie is 0 or below.
func TestCookiesOfNoTree(t *testing.T) {
	l := rising(math.MinInt64, math.MinInt64+1, -1<<32, -2, -1, 0, 1, 2)
	expectRead(t, l, 0, 64, 2, l[6], l[7])
	expectRead(t, l, 0, 1, 1, l[6])
	expectRead(t, l, 1, 1, 2, l[7])
	expectRead(t, l[:6], 0, 64, 0)
	expectRead(t, l[:6], 3, 1, 3)
	expectRead(t, l[:1], math.MaxInt64, 1, math.MaxInt64)
}

// P16.1: entries come whole, whatever stands in their fields.
func TestWholeEntries(t *testing.T) {
	l := []api.Entry{
		{Cookie: 1},
		{Name: "a", Node: 1, Dir: true, Cookie: 2, Short: 0},
		{Name: "a", Node: 1, Dir: true, Cookie: 3, Short: 0},
		{Name: "caf\xe9", Node: 200, Cookie: 4, Short: 1000000},
		{Name: "b", Node: math.MinInt, Dir: true, Cookie: 5, Short: math.MaxInt},
		{Name: "c", Node: math.MaxInt, Cookie: 6, Short: math.MinInt},
	}
	for from := range l {
		for to := from + 1; to <= len(l); to++ {
			expectRead(t, l, int64(from), to-from, int64(to), l[from:to]...)
		}
	}
}

// ruled says the chapter over again, entry by entry.
func ruled(l []api.Entry, at int64, n int) ([]api.Entry, int64, api.Errno) {
	switch {
	case n < 1, n > 64:
		return nil, 0, api.ErrArg
	case at < 0:
		return nil, 0, api.ErrCursor
	}
	next := at
	var come []api.Entry
	for _, e := range l {
		if e.Cookie > at && len(come) < n {
			come = append(come, e)
			next = e.Cookie
		}
	}
	return come, next, api.OK
}

// expectRuled tells how many came, too.
func expectRuled(t *testing.T, l []api.Entry, at int64, n int) int {
	t.Helper()
	want, next, err := ruled(l, at, n)
	if err != api.OK {
		expectNoRead(t, l, at, n, err)
		return 0
	}
	expectRead(t, l, at, n, next, want...)
	return len(want)
}

// P16.1: all lists of some of these cookies, from each cursor about them, with
// each n about their number.
func TestRuleShort(t *testing.T) {
	from := []int64{-1, 0, 1, 2, 4, 5, 9, math.MaxInt64}
	cursors := []int64{math.MinInt64, -2, -1, 0, 1, 2, 3, 4, 5, 6, 8, 9, 10, math.MaxInt64 - 1, math.MaxInt64}
	for chosen := range 1 << len(from) {
		var cookies []int64
		for i, cookie := range from {
			if chosen>>i&1 == 1 {
				cookies = append(cookies, cookie)
			}
		}
		l := rising(cookies...)
		for _, at := range cursors {
			for _, n := range []int{math.MinInt, -1, 0, 1, 2, 3, 4, 5, 6, 7, 8, 9, 64, 65, math.MaxInt} {
				expectRuled(t, l, at, n)
			}
		}
	}
}

// drawnList has gaps of up to so much.
func drawnList(draw func(below int) int, length, gap int) []api.Entry {
	var cookies []int64
	last := int64(0)
	for range length {
		last += 1 + int64(draw(gap))
		cookies = append(cookies, last)
	}
	return rising(cookies...)
}

// P16.1: lists that are drawn, short and long, of few gaps and of many.
func TestRuleDrawn(t *testing.T) {
	draw := drawer()
	few, full := 0, 0
	for round := range 600 {
		l := drawnList(draw, draw(300), []int{1, 2, 50, 30000}[round%4])
		last := int64(2)
		if len(l) > 0 {
			last += l[len(l)-1].Cookie
		}
		for range 40 {
			n := 1 + draw(64)
			switch come := expectRuled(t, l, int64(draw(30000))*last/30000, n); come {
			case n:
				full++
			default:
				few++
			}
		}
	}
	if few < 1000 || full < 1000 {
		t.Errorf("as many as were asked for came %d times, and fewer %d times", full, few)
	}
}

// R1: where cookies don't rise, a call ends all the same, with no more than was
// asked for, and leaves the list as it is.
func TestCookiesThatDoNotRise(t *testing.T) {
	draw := drawer()
	for range 2000 {
		l := rising(upTo(draw(100), 1)...)
		for i := range l {
			j := draw(len(l))
			l[i], l[j] = l[j], l[i]
		}
		if draw(2) == 0 {
			l = append(l, l...)
		}
		at, n := int64(draw(110)), 1+draw(64)
		batch, next, err := read(t, l, at, n)
		want := at
		if len(batch) > 0 {
			want = batch[len(batch)-1].Cookie
		}
		if len(batch) > n || next != want || err != api.OK {
			t.Fatalf("Read(%s, %d, %d) = %s, %d, %d", shown(l), at, n, shown(batch), next, err)
		}
		for _, e := range batch {
			if !slices.Contains(l, e) {
				t.Fatalf("%#v isn't of the list", e)
			}
		}
	}
}
