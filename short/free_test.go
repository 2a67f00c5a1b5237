package short_test

import (
	"math"
	"slices"
	"testing"

	"toponym/short"
)

func wantedFree(taken []int) int {
	free := 1
	for slices.Contains(taken, free) {
		free++
	}
	return free
}

func expectFree(t *testing.T, want int, taken ...int) {
	t.Helper()
	if n := short.Free(taken...); n != want {
		t.Errorf("Free(%v) = %d; want %d", taken, n, want)
	}
}

// P5.1: the least number from 1 on that isn't taken.
func TestFree(t *testing.T) {
	expectFree(t, 1)
	expectFree(t, 1, []int{}...)
	expectFree(t, 2, 1)
	expectFree(t, 1, 2)
	expectFree(t, 3, 1, 2)
	expectFree(t, 6, 1, 2, 3, 4, 5)
	expectFree(t, 2, 1, 3)
	expectFree(t, 3, 1, 2, 4, 5)
	expectFree(t, 1, 2, 3, 4)
	expectFree(t, 4, 1, 2, 3, 5, 7)
	expectFree(t, 4, 3, 2, 1)
	expectFree(t, 5, 4, 1, 3, 2)
	expectFree(t, 3, 5, 1, 4, 2)
	expectFree(t, 11, 10, 9, 8, 7, 6, 5, 4, 3, 2, 1)
	expectFree(t, 11, 2, 10, 1, 9, 4, 3, 8, 5, 7, 6)
	expectFree(t, 2, 1, 1)
	expectFree(t, 3, 1, 1, 2, 2)
	expectFree(t, 3, 2, 1, 2, 1, 2)
	expectFree(t, 1, 2, 2, 2)
	expectFree(t, 3, 1, 2, 2, 2, 4)
}

// P5.1: numbers below 1, and far above, take none away.
func TestFreeOthers(t *testing.T) {
	expectFree(t, 1, 0)
	expectFree(t, 1, -1)
	expectFree(t, 1, 0, 0, 0)
	expectFree(t, 2, 0, 1)
	expectFree(t, 3, -1, 0, 1, 2)
	expectFree(t, 3, 2, 1, 0, -1, -2)
	expectFree(t, 1, math.MinInt, math.MaxInt)
	expectFree(t, 2, math.MaxInt, 1, math.MinInt)
	expectFree(t, 3, 1, 2, math.MaxInt, math.MaxInt-1)
	expectFree(t, 2, 1, 1000000, 1000001)
	expectFree(t, 1, 1<<32+1)
	expectFree(t, 2, 1, 1<<32+2, -1<<32+2, -2)
	expectFree(t, 1, math.MaxInt32, math.MinInt32, math.MaxInt32+1)
}

// P5.1: all lists of up to five of some numbers.
func TestFreeAll(t *testing.T) {
	values := []int{-1, 0, 1, 2, 3, 4, 5, 6, 1000001}
	lists := [][]int{nil}
	for at := 0; at < len(lists); at++ {
		taken := lists[at]
		expectFree(t, wantedFree(taken), taken...)
		if len(taken) == 5 {
			continue
		}
		for _, n := range values {
			lists = append(lists, append(slices.Clone(taken), n))
		}
	}
}

// P5.1: many numbers, from below, from above, and mixed.
func TestFreeMany(t *testing.T) {
	const count = 100000
	up := make([]int, count)
	down := make([]int, count)
	mixed := make([]int, count)
	for i := range count {
		up[i] = i + 1
		down[i] = count - i
		mixed[i] = i*7919%count + 1
	}
	for _, taken := range [][]int{up, down, mixed} {
		expectMany(t, count+1, taken)
		gap := slices.Clone(taken)
		gap[slices.Index(gap, 77777)] = 77776
		expectMany(t, 77777, gap)
		gap[slices.Index(gap, 1)] = count + 5
		expectMany(t, 1, gap)
	}
}

func expectMany(t *testing.T, want int, taken []int) {
	t.Helper()
	if n := short.Free(taken...); n != want {
		t.Errorf("Free of %d numbers = %d; want %d", len(taken), n, want)
	}
}

// P5.1: what was handed in stays, and its spare room too.
func TestFreeStays(t *testing.T) {
	for _, taken := range [][]int{{5, 4, 3, 2, 1, 9, 8}, {1, 2, 3, 9, 8}, {3, 3, 1, 0, -7, 2, 9, 8}, {9, 8}} {
		before := slices.Clone(taken)
		given := taken[:len(taken)-2]
		expectFree(t, wantedFree(given), given...)
		expectFree(t, wantedFree(given), given...)
		if !slices.Equal(taken, before) {
			t.Errorf("%v became %v", before, taken)
		}
	}
}
