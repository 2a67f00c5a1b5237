package faces_test

import (
	"math"
	"slices"
	"strings"
	"testing"

	"toponym/api"
)

// withShorts are entries of the names, each of one name a Short.
func withShorts(names []string, numbers ...int) []api.Entry {
	var l []api.Entry
	for i, n := range numbers {
		l = append(l, named(names[i%len(names)], n))
	}
	return l
}

// P14.1: of a name that isn't long, by one byte, too, Pick is 0, whatever the
// list holds.
func TestPickNotLong(t *testing.T) {
	for enc := range encodings {
		for _, raw := range []string{"", "a", "\xff", "\x00", "a/b", "..", letters(255), stars(85), letters(252) + "."} {
			expectPick(t, enc, nil, raw, 0)
			expectPick(t, enc, rowOf("a", "b", raw), raw, 0)
			expectPick(t, enc, withShorts([]string{raw}, 1, 2, 4), raw, 0)
			expectPick(t, enc, withShorts([]string{raw}, 2, 3), raw, 0)
			expectPick(t, enc, withShorts([]string{stars(90)}, 1, 2), raw, 0)
		}
	}
	to := aimed(hashed("a"))
	long := to.many(1)[0]
	for enc := range encodings {
		expectPick(t, enc, []api.Entry{named(long, 1), named(long, 2)}, "a", 0)
	}
}

// P14.1: of one that is long, by one byte, too: 1 of a list of none, or of names
// of other hashes.
func TestPickFirst(t *testing.T) {
	for enc := range encodings {
		for _, raw := range []string{letters(256), letters(1000), stars(86), stars(85) + "a", stars(255), letters(253) + ".", stars(90)} {
			expectPick(t, enc, nil, raw, 1)
			expectPick(t, enc, []api.Entry{}, raw, 1)
			expectPick(t, enc, rowOf("a", "b"), raw, 1)
			expectPick(t, enc, withShorts([]string{raw + "b"}, 1, 2, 3), raw, 1)
			expectPick(t, enc, withShorts([]string{raw[1:], "a", ""}, 1, 1, 1, 2, 2, 2), raw, 1)
		}
	}
	expectPick(t, api.ASCII, nil, strings.Repeat("\x80", 86), 1)
	expectPick(t, api.Latin1, nil, strings.Repeat("\x80", 86), 0)
	expectPick(t, api.Latin1, nil, strings.Repeat("\xe9", 128), 1)
	expectPick(t, api.CP437, nil, strings.Repeat("\xb0", 86), 1)
	expectPick(t, api.Kana, nil, strings.Repeat("\x83\x41", 85), 0)
	expectPick(t, api.Kana, nil, strings.Repeat("\x83\x41", 86), 1)
	expectPick(t, api.UTF8, nil, strings.Repeat("\xff", 86), 1)
	expectPick(t, api.HFS, nil, strings.Repeat("\u00e9", 43), 1)
	expectPick(t, api.HFS, nil, strings.Repeat("e\u0301", 127), 0)
}

// numbersOf are lists of Shorts, and the least number that isn't there.
func numbersOf() map[int][][]int {
	return map[int][][]int{
		1: {{2}, {2, 3}, {3, 2}, {0}, {-1}, {0, 0, -5}, {1000000}, {math.MinInt, math.MaxInt}, {2, 3, 4, 0}, {-1, 2}, {1 << 32, 1<<32 + 1}},
		2: {{1}, {1, 3}, {3, 1}, {1, 1}, {1, 3, 4, 5}, {5, 4, 3, 1}, {0, 1}, {1, 0, -1}, {-2, 1, 3}, {1, math.MaxInt}},
		3: {{1, 2}, {2, 1}, {1, 2, 4}, {4, 2, 1}, {2, 4, 1}, {1, 1, 2, 2}, {0, 2, -1, 1}, {1, 0, 2, 0}, {2, 1, 1000001}, {-1, 2, 0, 4, -7, 1}},
		4: {{1, 2, 3}, {3, 1, 2}, {2, 3, 1, 5, 6}, {3, 0, 2, -1, 1}, {6, 5, 3, 2, 1}},
		8: {{7, 6, 5, 4, 3, 2, 1}, {1, 2, 3, 4, 5, 6, 7, 9}, {4, 2, 6, 1, 3, 5, 7, 10}},
	}
}

// P14.1: else it is the least number from 1 on that no entry of the same hash
// has: with gaps, in whatever order, with a Short of 0, or of less, between
// them, and with other hashes' entries of the same numbers.
func TestPickLeast(t *testing.T) {
	raw := stars(90)
	for want, lists := range numbersOf() {
		for _, numbers := range lists {
			l := withShorts([]string{raw}, numbers...)
			other := withShorts([]string{stars(91), "a", letters(300)}, 1, 1, 1, 2, 2, 2, 3, 3, 3, 4, 4, 4, 8, 8, 8)
			for enc := range encodings {
				expectPick(t, enc, l, raw, want)
				expectPick(t, enc, append(slices.Clone(l), other...), raw, want)
				expectPick(t, enc, append(slices.Clone(other), l...), raw, want)
			}
		}
	}
}

// P14.1: the same, where different names have one hash: those of names that
// aren't long count, too.
func TestPickOfOneHash(t *testing.T) {
	to := aimed(hashed("a"))
	names := append(to.many(9), to.names("")...)
	names = append(names, "a")
	raw, names := names[0], names[1:]
	for want, lists := range numbersOf() {
		for _, numbers := range lists {
			for at := range len(names) {
				l := withShorts(append(slices.Clone(names[at:]), names[:at]...), numbers...)
				for enc := range encodings {
					expectPick(t, enc, l, raw, want)
				}
			}
		}
	}
}

// P14.1: hashes that are nearly one another are others.
func TestPickNearHash(t *testing.T) {
	raw := stars(90)
	for bit := range 32 {
		near := aimed(hashed(raw) ^ 1<<bit).names("")
		if len(near) == 0 {
			t.Fatalf("%d: no name", bit)
		}
		for enc := range encodings {
			expectPick(t, enc, []api.Entry{named(near[0], 1)}, raw, 1)
			expectPick(t, enc, []api.Entry{named(near[0], 2), named(raw, 1)}, raw, 2)
		}
	}
}

// P14.1: of many, with one gap, in an order that is none.
func TestPickMany(t *testing.T) {
	draw := drawer()
	for _, gap := range []int{1, 2, 57, 998, 999, 1000, 1001} {
		var numbers []int
		for n := 1; n <= 1000; n++ {
			if n != gap {
				numbers = append(numbers, n)
			}
		}
		for i := range numbers {
			j := draw(len(numbers))
			numbers[i], numbers[j] = numbers[j], numbers[i]
		}
		l := withShorts([]string{stars(90)}, numbers...)
		for enc := range encodings {
			expectPick(t, enc, l, stars(90), gap)
		}
	}
}

// P14.1: there is no greatest number: behind those that have a short name, one
// that has none.
func TestPickBehindAll(t *testing.T) {
	l := make([]api.Entry, 1000000)
	for i := range l {
		l[i] = named(letters(256), i+1)
	}
	expectPick(t, api.ASCII, l[:999999], letters(256), 1000000)
	expectPick(t, api.ASCII, l, letters(256), 1000001)
}
