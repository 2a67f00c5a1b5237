package cursor_test

import (
	"fmt"
	"math"
	"slices"
	"strings"
	"testing"

	"toponym/api"
	"toponym/cursor"
)

// rising are entries with these cookies, no two of which are alike in a field
// that may tell them apart.
func rising(cookies ...int64) []api.Entry {
	l := make([]api.Entry, len(cookies))
	for i, cookie := range cookies {
		l[i] = api.Entry{Name: fmt.Sprintf("\xe9 %d", cookie), Node: 1000 - i, Dir: i%3 == 0, Cookie: cookie, Short: i * 7 % 5}
	}
	return l
}

// upTo are the cookies 1 to n, each times so much.
func upTo(n int, times int64) []int64 {
	var cookies []int64
	for i := range n {
		cookies = append(cookies, int64(i+1)*times)
	}
	return cookies
}

// roomy is the list with spare room, in which something stands.
func roomy(l []api.Entry) []api.Entry {
	room := make([]api.Entry, len(l), len(l)+3)
	copy(room[copy(room, l):cap(room)], rising(7, 70, 700))
	return room
}

// drawer picks numbers from 0 on by a small sum.
func drawer() func(below int) int {
	state := uint32(1)
	return func(below int) int {
		state = state*1664525 + 1013904223
		return int(state>>16) % below
	}
}

// shown are entries in a test's words: not too many of them.
func shown(l []api.Entry) string {
	if len(l) < 12 {
		return fmt.Sprintf("%#v", l)
	}
	return fmt.Sprintf("%#v and so on, %d of them", l[:10], len(l))
}

// read asks whether what was handed in, its spare room too, is as it was.
func read(t *testing.T, l []api.Entry, at int64, n int) ([]api.Entry, int64, api.Errno) {
	t.Helper()
	handed := roomy(l)
	batch, next, err := cursor.Read(handed, at, n)
	if whole := handed[:cap(handed)]; !slices.Equal(whole, roomy(l)[:cap(handed)]) {
		t.Errorf("Read(%s, %d, %d) has changed the list: %s", shown(l), at, n, shown(whole))
	}
	return batch, next, err
}

func expectRead(t *testing.T, l []api.Entry, at int64, n int, next int64, want ...api.Entry) {
	t.Helper()
	if batch, behind, err := read(t, l, at, n); !slices.Equal(batch, want) || behind != next || err != api.OK {
		t.Errorf("Read(%s, %d, %d) = %s, %d, %d; want %s, %d", shown(l), at, n, shown(batch), behind, err, shown(want), next)
	}
}

func expectNoRead(t *testing.T, l []api.Entry, at int64, n int, want api.Errno) {
	t.Helper()
	if batch, behind, err := read(t, l, at, n); len(batch) != 0 || behind != 0 || err != want {
		t.Errorf("Read(%s, %d, %d) = %s, %d, %d; want %d", shown(l), at, n, shown(batch), behind, err, want)
	}
}

// noCounts are such as aren't from 1 to MaxBatch, some of them like one that is
// by their lower bits.
func noCounts() []int {
	return []int{0, -1, -2, -64, -65, math.MinInt32, math.MinInt, math.MinInt + 1, -1<<32 + 1, 65, 66, 128, 255, 256, 257, 1000, 65537, math.MaxInt32, 1 << 32, 1<<32 + 1, math.MaxInt - 1, math.MaxInt}
}

func noCursors() []int64 {
	return []int64{-1, -2, -5, -64, -256, -255, math.MinInt32, -1 << 32, -1<<32 + 1, math.MinInt64, math.MinInt64 + 1}
}

// lists are of no entry, one, and more, some of whose cookies no tree gives.
func lists() [][]api.Entry {
	return [][]api.Entry{
		nil,
		{},
		rising(1),
		rising(2, 5, 9),
		rising(upTo(64, 1)...),
		rising(upTo(200, 3)...),
		rising(math.MaxInt64),
		rising(math.MinInt64, -1, 0, 1, math.MaxInt64),
	}
}

// P16.1: the chapter's example, and what it means for who begins, and goes on.
func TestExample(t *testing.T) {
	l := rising(2, 5, 9)
	expectRead(t, l, 2, 1, 5, l[1])
	expectRead(t, l, 0, 1, 2, l[0])
	expectRead(t, l, 5, 1, 9, l[2])
	expectRead(t, l, 9, 1, 9)
}

// P16.1: Valid of 0, and of numbers above and below it.
func TestValid(t *testing.T) {
	for _, at := range []int64{0, 1, 2, 5, 64, 65, 255, 256, math.MaxInt32, 1 << 31, 1 << 32, math.MaxInt64 - 1, math.MaxInt64} {
		if !cursor.Valid(at) {
			t.Errorf("Valid(%d) = false", at)
		}
	}
	for _, at := range noCursors() {
		if cursor.Valid(at) {
			t.Errorf("Valid(%d) = true", at)
		}
	}
}

// R5: what was answered belongs to whoever has it: what is done to it isn't seen
// in the list, nor in other answers.
func TestAnswersAreNew(t *testing.T) {
	for _, n := range []int{1, 2, 3, 64} {
		l := rising(2, 5, 9, 11)
		first, _, _ := cursor.Read(l, 2, n)
		second, _, _ := cursor.Read(l, 2, n)
		for i := range first {
			first[i] = api.Entry{Name: "changed", Cookie: 1}
		}
		first = append(first, rising(1, 2, 3)...)
		slices.Reverse(first[:cap(first)])
		want := rising(2, 5, 9, 11)
		if !slices.Equal(l, want) || !slices.Equal(second, want[1:min(n+1, 4)]) {
			t.Errorf("the list is %s, and what was read ahead %s", shown(l), shown(second))
		}
	}
}

// R5: what was answered stays, whatever becomes of the list.
func TestAnswersStay(t *testing.T) {
	for _, n := range []int{1, 2, 3, 64} {
		l := rising(2, 5, 9, 11)
		batch, next, _ := cursor.Read(l, 2, n)
		clear(l)
		l = append(l[:0], rising(100, 200, 300)...)
		want := rising(2, 5, 9, 11)[1:min(n+1, 4)]
		if !slices.Equal(batch, want) || next != want[len(want)-1].Cookie {
			t.Errorf("what was read is %s, %d; of %s now", shown(batch), next, shown(l))
		}
	}
}

// R5: likewise where nothing comes.
func TestNothingIsNew(t *testing.T) {
	l := roomy(rising(2, 5, 9))
	nothing, _, _ := cursor.Read(l, 9, 3)
	_ = append(nothing, rising(1, 1, 1)...)
	wrong, _, _ := cursor.Read(l, -1, 3)
	_ = append(wrong, rising(1, 1, 1)...)
	if !slices.Equal(l[:cap(l)], roomy(rising(2, 5, 9))[:cap(l)]) {
		t.Errorf("the list is %s", shown(l[:cap(l)]))
	}
}

// R7: no call hangs on those ahead of it: not two that read one list by turns,
// nor one behind an error.
func TestCallsAlone(t *testing.T) {
	a, b := rising(2, 5, 9), rising(3, 4, 100)
	expectRead(t, a, 0, 1, 2, a[0])
	expectRead(t, b, 0, 2, 4, b[0], b[1])
	expectRead(t, a, 0, 1, 2, a[0])
	expectNoRead(t, a, -1, 1, api.ErrCursor)
	expectRead(t, a, 2, 1, 5, a[1])
	expectRead(t, a, 0, 3, 9, a...)
	expectNoRead(t, b, 4, 65, api.ErrArg)
	expectRead(t, b, 4, 2, 100, b[2])
	expectRead(t, a, 2, 1, 5, a[1])
	expectRead(t, a[:1], 2, 1, 2)
	expectRead(t, a[1:], 2, 1, 5, a[1])
}

// P16.1: nothing is asked of a name: of no bytes, or of as many as one likes.
func TestNames(t *testing.T) {
	var l []api.Entry
	for i, name := range []string{"", ".", "..", "/", "\x00", "a", "a", strings.Repeat("a", 255), strings.Repeat("*", 100000)} {
		l = append(l, api.Entry{Name: name, Cookie: int64(i) + 1})
	}
	expectRead(t, l, 0, 64, 9, l...)
	for i, e := range l {
		expectRead(t, l, int64(i), 1, e.Cookie, e)
	}
}
