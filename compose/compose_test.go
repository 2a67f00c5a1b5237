package compose_test

import (
	"math"
	"slices"
	"testing"

	"toponym/compose"
)

// marks are the chapter's, each with its class.
func marks() map[rune]int {
	return map[rune]int{
		0x300: 230, 0x301: 230, 0x302: 230, 0x303: 230, 0x304: 230,
		0x306: 230, 0x307: 230, 0x308: 230,
		0x30a: 230, 0x30b: 230, 0x30c: 230,
		0x327: 202, 0x328: 202,
	}
}

// noCharacters are numbers that are none, and would be something if they were
// cut off or turned round.
func noCharacters() []rune {
	return []rune{
		math.MinInt32, math.MinInt32 + 0x301, math.MinInt32 + 'e', -0x301, -0xac00, -0x10000, -'e', -1,
		0xd800, 0xdbff, 0xdc00, 0xdfff, 0x110000, 0x110301, 0x1000000 + 'e', math.MaxInt32,
	}
}

// made holds each character that a pair makes by its pair, syllables too; it
// says the chapter's rule of them over again, by counting.
func made() map[[2]rune]rune {
	all := map[[2]rune]rune{}
	for _, p := range pairs() {
		all[[2]rune{p.letter, p.mark}] = p.made
	}
	next := rune(0xac00)
	for l := range rune(19) {
		for v := range rune(21) {
			open := next
			all[[2]rune{0x1100 + l, 0x1161 + v}] = open
			for t := range rune(27) {
				next++
				all[[2]rune{open, 0x11a8 + t}] = next
			}
			next++
		}
	}
	return all
}

func expectPair(t *testing.T, a, b, want rune) {
	t.Helper()
	if r, ok := compose.Pair(a, b); r != want || !ok {
		t.Errorf("Pair(%x, %x) = %x, %v; want %x, true", a, b, r, ok, want)
	}
}

func expectNoPair(t *testing.T, a, b rune) {
	t.Helper()
	if r, ok := compose.Pair(a, b); r != 0 || ok {
		t.Errorf("Pair(%x, %x) = %x, %v; want 0, false", a, b, r, ok)
	}
}

func expectSplit(t *testing.T, r, a, b rune) {
	t.Helper()
	if first, second, ok := compose.Split(r); first != a || second != b || !ok {
		t.Errorf("Split(%x) = %x, %x, %v; want %x, %x, true", r, first, second, ok, a, b)
	}
}

func expectNoSplit(t *testing.T, r rune) {
	t.Helper()
	if first, second, ok := compose.Split(r); first != 0 || second != 0 || ok {
		t.Errorf("Split(%x) = %x, %x, %v; want 0, 0, false", r, first, second, ok)
	}
}

func expectApart(t *testing.T, l, want []rune) {
	t.Helper()
	if got := compose.Apart(l); !slices.Equal(got, want) {
		t.Errorf("Apart(%x) = %x, want %x", l, got, want)
	}
	if got := compose.Stable(l); got != slices.Equal(l, want) {
		t.Errorf("Stable(%x) = %v", l, got)
	}
}

func expectTogether(t *testing.T, l, want []rune) {
	t.Helper()
	if got := compose.Together(l); !slices.Equal(got, want) {
		t.Errorf("Together(%x) = %x, want %x", l, got, want)
	}
}

// P3.1: Class of every number around the characters.
func TestClass(t *testing.T) {
	want := marks()
	for r := rune(-0x1000); r <= 0x111000; r++ {
		if got := compose.Class(r); got != want[r] {
			t.Errorf("Class(%x) = %d, want %d", r, got, want[r])
		}
	}
	for _, r := range noCharacters() {
		if got := compose.Class(r); got != 0 {
			t.Errorf("Class(%x) = %d of no character", r, got)
		}
	}
}

// P3.1: Pair of each pair, and Split of what it makes.
func TestEachPair(t *testing.T) {
	all := made()
	if len(all) != 159+19*21+19*21*27 {
		t.Fatalf("the test has %d pairs", len(all))
	}
	for p, r := range all {
		expectPair(t, p[0], p[1], r)
		expectSplit(t, r, p[0], p[1])
	}
}

// P3.1: Split of every number around the characters that no pair makes.
func TestNoSplit(t *testing.T) {
	ofPairs := map[rune]int{}
	for _, r := range made() {
		ofPairs[r]++
	}
	for r := rune(-0x1000); r <= 0x111000; r++ {
		if ofPairs[r] == 0 {
			expectNoSplit(t, r)
		}
	}
	for _, r := range noCharacters() {
		expectNoSplit(t, r)
	}
}

// P3.1: every number below the Hangul rows' end, behind each letter, mark and
// character that a pair makes, is a pair only if the table has it.
func TestNoPair(t *testing.T) {
	all := made()
	var ahead []rune
	for r := rune(-2); r <= 0x180; r++ {
		ahead = append(ahead, r)
	}
	ahead = append(ahead, 0x300, 0x301, 0x327, 0x328, 0x1e00, 0x1100, 0x1112, 0xac00, 0xac01)
	for _, a := range ahead {
		for b := rune(-2); b <= 0x11c8; b++ {
			if r, ok := all[[2]rune{a, b}]; ok {
				expectPair(t, a, b, r)
			} else {
				expectNoPair(t, a, b)
			}
		}
	}
}

// P3.1: a pair's two the other way round, with themselves, and with what is
// beside them, are none.
func TestNoPairBeside(t *testing.T) {
	for _, p := range pairs() {
		expectNoPair(t, p.mark, p.letter)
		expectNoPair(t, p.letter, p.letter)
		expectNoPair(t, p.mark, p.mark)
		expectNoPair(t, p.made, p.mark)
		expectNoPair(t, p.letter, p.made)
	}
	for _, b := range []rune{0x305, 0x309, 0x30d, 0x323, 0x326, 0x329} {
		for a := rune('A'); a <= 'z'; a++ {
			expectNoPair(t, a, b)
		}
	}
	for _, p := range [][2]rune{{'H', 0x301}, {'y', 0x300}, {'E', 0x303}, {'i', 0x307}, {'h', 0x308}, {'E', 0x30a}, {'Y', 0x302 + 0x10000}, {'O', 0x327}, {'O', 0x328}, {'l', 0x30c}} {
		expectNoPair(t, p[0], p[1])
	}
	for _, r := range noCharacters() {
		expectNoPair(t, r, 0x301)
		expectNoPair(t, 'e', r)
		expectNoPair(t, r, r)
	}
}

// P3.1: the edges of Hangul's rows, and the characters beside them.
func TestHangulEdges(t *testing.T) {
	expectPair(t, 0x1100, 0x1161, 0xac00)
	expectPair(t, 0x1100, 0x1175, 0xac00+28*20)
	expectPair(t, 0x1112, 0x1161, 0xac00+588*18)
	expectPair(t, 0x1112, 0x1175, 0xd788)
	expectPair(t, 0xac00, 0x11a8, 0xac01)
	expectPair(t, 0xac00, 0x11c2, 0xac1b)
	expectPair(t, 0xac1c, 0x11a8, 0xac1d)
	expectPair(t, 0xd788, 0x11a8, 0xd789)
	expectPair(t, 0xd788, 0x11c2, 0xd7a3)
	for _, p := range [][2]rune{
		{0x10ff, 0x1161}, {0x1113, 0x1161}, {0x1100, 0x1160}, {0x1100, 0x1176}, // Beside the leading ones, and the vowels.
		{0xac00, 0x11a7}, {0xac00, 0x11c3}, {0xabe4, 0x11a8}, {0xd7a4, 0x11a8}, // Beside the trailing ones, and the syllables.
		{0xac01, 0x11a8}, {0xac1b, 0x11a8}, {0xd7a3, 0x11a8}, // A syllable that has a trailing one.
		{0x1100, 0x11a8}, {0x1161, 0x11a8}, {0xac00, 0x1161}, {0x1161, 0x1100}, {0x1100, 0x1100}, {0x1100, 0xac00}, {0xac00, 0xac00},
	} {
		expectNoPair(t, p[0], p[1])
	}
	expectSplit(t, 0xac00, 0x1100, 0x1161)
	expectSplit(t, 0xac01, 0xac00, 0x11a8)
	expectSplit(t, 0xac1b, 0xac00, 0x11c2)
	expectSplit(t, 0xac1c, 0x1100, 0x1162)
	expectSplit(t, 0xd788, 0x1112, 0x1175)
	expectSplit(t, 0xd7a3, 0xd788, 0x11c2)
	for _, r := range []rune{0xabff, 0xabe4, 0xd7a4, 0xd7c0, 0x1100, 0x1161, 0x11a8} {
		expectNoSplit(t, r)
	}
}

// P3.2: Apart and Stable of what is taken apart, and of what is as it is.
func TestApart(t *testing.T) {
	for _, c := range []struct{ l, want []rune }{
		{nil, nil},
		{[]rune{}, nil},
		{[]rune{0}, []rune{0}},
		{[]rune{'c', 'a', 'f', 0xe9}, []rune{'c', 'a', 'f', 'e', 0x301}},
		{[]rune{0xe9, 0xe9}, []rune{'e', 0x301, 'e', 0x301}},
		{[]rune{'e', 0x301}, []rune{'e', 0x301}},
		{[]rune{0xac00}, []rune{0x1100, 0x1161}},
		{[]rune{0xac01}, []rune{0x1100, 0x1161, 0x11a8}},
		{[]rune{0xac00, 0x11a8}, []rune{0x1100, 0x1161, 0x11a8}},
		{[]rune{0xd7a3, 0xac00}, []rune{0x1112, 0x1175, 0x11c2, 0x1100, 0x1161}},
		// Of both classes, in either order.
		{[]rune{'e', 0x327, 0x301}, []rune{'e', 0x327, 0x301}},
		{[]rune{'e', 0x301, 0x327}, []rune{'e', 0x327, 0x301}},
		{[]rune{0xe9, 0x327}, []rune{'e', 0x327, 0x301}},
		{[]rune{0xe7, 0x301}, []rune{'c', 0x327, 0x301}},
		{[]rune{0x107, 0x327, 0x302, 0x328}, []rune{'c', 0x327, 0x328, 0x301, 0x302}},
		// Of one class, as they stood.
		{[]rune{'e', 0x302, 0x301}, []rune{'e', 0x302, 0x301}},
		{[]rune{'e', 0x301, 0x302}, []rune{'e', 0x301, 0x302}},
		{[]rune{'e', 0x328, 0x327}, []rune{'e', 0x328, 0x327}},
		{[]rune{'e', 0x30c, 0x328, 0x300, 0x327, 0x308, 0x328}, []rune{'e', 0x328, 0x327, 0x328, 0x30c, 0x300, 0x308}},
		// First in the list.
		{[]rune{0x301, 0x327}, []rune{0x327, 0x301}},
		{[]rune{0x301}, []rune{0x301}},
		{[]rune{0x301, 'e', 0x327}, []rune{0x301, 'e', 0x327}},
		{[]rune{0x301, 0x327, 0xe9, 0x328}, []rune{0x327, 0x301, 'e', 0x328, 0x301}},
		// Parted by one of the class 0.
		{[]rune{'e', 0x301, 0x305, 0x327}, []rune{'e', 0x301, 0x305, 0x327}},
		{[]rune{'e', 0x301, 'c', 0x327}, []rune{'e', 0x301, 'c', 0x327}},
		{[]rune{0x301, 0xe7}, []rune{0x301, 'c', 0x327}},
		{[]rune{'e', 0x301, 0x1161, 0x327}, []rune{'e', 0x301, 0x1161, 0x327}},
		// Numbers that are no characters stay, and part.
		{[]rune{-1, 0xe9, 0xd800, 0x301, 0x327}, []rune{-1, 'e', 0x301, 0xd800, 0x327, 0x301}},
		{[]rune{'e', 0x301, -1, 0x327, math.MinInt32, math.MaxInt32}, []rune{'e', 0x301, -1, 0x327, math.MinInt32, math.MaxInt32}},
	} {
		expectApart(t, c.l, c.want)
	}
	expectApart(t, noCharacters(), noCharacters())
}

// P3.2: many marks of one class stay as they stood, however many they are.
func TestApartOfManyMarks(t *testing.T) {
	var l, low, high []rune
	for n := range 400 {
		high = append(high, 0x300+rune(n*7%5))
		l = append(l, high[n])
		low = append(low, 0x327+rune(n*n/3%2))
		l = append(l, low[n])
	}
	expectApart(t, append([]rune{'a'}, l...), slices.Concat([]rune{'a'}, low, high))
}

// P3.2: Together of what is a pair, and of what isn't.
func TestTogether(t *testing.T) {
	for _, c := range []struct{ l, want []rune }{
		{nil, nil},
		{[]rune{}, nil},
		{[]rune{0}, []rune{0}},
		{[]rune{'c', 'a', 'f', 'e', 0x301}, []rune{'c', 'a', 'f', 0xe9}},
		{[]rune{'e', 0x301, 'e', 0x301}, []rune{0xe9, 0xe9}},
		{[]rune{0xe9}, []rune{0xe9}},
		{[]rune{'q', 0x301}, []rune{'q', 0x301}},
		{[]rune{0x1100, 0x1161}, []rune{0xac00}},
		{[]rune{0x1100, 0x1161, 0x11a8}, []rune{0xac01}},
		{[]rune{0xac00, 0x11a8}, []rune{0xac01}},
		{[]rune{0x1100, 0x1161, 0x11a8, 0x11a8}, []rune{0xac01, 0x11a8}},
		{[]rune{0x1100, 0x1100, 0x1161, 0x1161}, []rune{0x1100, 0xac00, 0x1161}},
		{[]rune{0x1112, 0x1175, 0x11c2, 0x1100, 0x1161}, []rune{0xd7a3, 0xac00}},
		{[]rune{0x1161, 0x11a8}, []rune{0x1161, 0x11a8}},
		// Past one of a lower class, whether that is put or stays.
		{[]rune{'e', 0x327, 0x301}, []rune{0xe9, 0x327}},
		{[]rune{'c', 0x327, 0x301}, []rune{0xe7, 0x301}},
		{[]rune{'c', 0x328, 0x301}, []rune{0x107, 0x328}},
		{[]rune{'e', 0x327, 0x327, 0x301}, []rune{0xe9, 0x327, 0x327}},
		// Blocked by one of the same class, or of a higher one.
		{[]rune{'y', 0x300, 0x301}, []rune{'y', 0x300, 0x301}},
		{[]rune{'e', 0x30a, 0x301}, []rune{'e', 0x30a, 0x301}},
		{[]rune{'e', 0x327, 0x328}, []rune{'e', 0x327, 0x328}},
		{[]rune{'c', 0x300, 0x327}, []rune{'c', 0x300, 0x327}},
		{[]rune{'e', 0x327, 0x30a, 0x301}, []rune{'e', 0x327, 0x30a, 0x301}},
		{[]rune{'e', 0x30a, 0x327, 0x301}, []rune{0xe9, 0x30a, 0x327}},
		// Behind one that is put: it is gone from between, and the letter is another.
		{[]rune{'e', 0x301, 0x302}, []rune{0xe9, 0x302}},
		{[]rune{'e', 0x301, 0x301}, []rune{0xe9, 0x301}},
		{[]rune{'c', 0x301, 0x327}, []rune{0x107, 0x327}},
		{[]rune{'e', 0x327, 0x301, 0x302}, []rune{0xe9, 0x327, 0x302}},
		{[]rune{0xe9, 0x327}, []rune{0xe9, 0x327}},
		// Parted by one of the class 0.
		{[]rune{'e', 0x305, 0x301}, []rune{'e', 0x305, 0x301}},
		{[]rune{'e', 0x20, 0x301}, []rune{'e', 0x20, 0x301}},
		{[]rune{'e', 'a', 0x301}, []rune{'e', 0xe1}},
		{[]rune{'e', 0x327, 'a', 0x301}, []rune{'e', 0x327, 0xe1}},
		{[]rune{0x1100, 0x301, 0x1161}, []rune{0x1100, 0x301, 0x1161}},
		{[]rune{0x1100, 0x1161, 0x327, 0x11a8}, []rune{0xac00, 0x327, 0x11a8}},
		{[]rune{0x1100, ' ', 0x1161}, []rune{0x1100, ' ', 0x1161}},
		// First in the list.
		{[]rune{0x301}, []rune{0x301}},
		{[]rune{0x301, 0x327, 'c', 0x327}, []rune{0x301, 0x327, 0xe7}},
		{[]rune{0x301, 'e'}, []rune{0x301, 'e'}},
		{[]rune{0x1161, 0x1100}, []rune{0x1161, 0x1100}},
		// Numbers that are no characters stay, and part.
		{[]rune{-1, 'e', 0x301, 0xd800, 0x301}, []rune{-1, 0xe9, 0xd800, 0x301}},
		{[]rune{'e', -1, 0x301, math.MaxInt32, math.MinInt32}, []rune{'e', -1, 0x301, math.MaxInt32, math.MinInt32}},
	} {
		expectTogether(t, c.l, c.want)
	}
	expectTogether(t, noCharacters(), noCharacters())
}

// P3.1, P3.2: each pair is put together, and what it makes is taken apart.
func TestEachPairInLists(t *testing.T) {
	for p, r := range made() {
		l := []rune{'x', p[0], p[1], 'x'}
		expectTogether(t, l, []rune{'x', r, 'x'})
		want := l
		if p[0] >= 0xac00 {
			first := p[0] - 0xac00
			want = []rune{'x', 0x1100 + first/588, 0x1161 + first%588/28, p[1], 'x'}
		}
		expectApart(t, []rune{'x', r, 'x'}, want)
	}
}

// plainApart says the chapter over again by other means: it splits while it
// can, and turns neighbours round while they stand wrong.
func plainApart(l []rune, parts map[rune][2]rune, classes map[rune]int) []rune {
	apart := slices.Clone(l)
	for at := 0; at < len(apart); {
		if p, ok := parts[apart[at]]; ok {
			apart = slices.Replace(apart, at, at+1, p[0], p[1])
		} else {
			at++
		}
	}
	for turned := true; turned; {
		turned = false
		for at := 1; at < len(apart); at++ {
			a, b := classes[apart[at-1]], classes[apart[at]]
			if b > 0 && a > b {
				apart[at-1], apart[at] = apart[at], apart[at-1]
				turned = true
			}
		}
	}
	return apart
}

// plainTogether works in place, and looks for the one of the class 0 anew each
// time.
func plainTogether(l []rune, all map[[2]rune]rune, classes map[rune]int) []rune {
	left := slices.Clone(l)
	for at := 1; at < len(left); at++ {
		base := at - 1
		for base >= 0 && classes[left[base]] != 0 {
			base--
		}
		if base < 0 || base < at-1 && classes[left[at]] <= classes[left[at-1]] {
			continue
		}
		if r, ok := all[[2]rune{left[base], left[at]}]; ok {
			left[base] = r
			left = slices.Delete(left, at, at+1)
			at--
		}
	}
	return left
}

// P3.2, P3.3: of all lists of at most four of some characters Apart and
// Together answer what the chapter says, and what follows from it holds.
func TestAllShortLists(t *testing.T) {
	all, classes := made(), marks()
	parts := map[rune][2]rune{}
	for p, r := range all {
		parts[r] = p
	}
	alphabet := []rune{'e', 'c', 0xe9, 0x301, 0x30c, 0x327, 0x328, 0x305, 0x1100, 0x1161, 0x11a8, 0xac00, 0xac01, -1}
	lists := [][]rune{nil}
	for range 5 {
		var longer [][]rune
		for _, l := range lists {
			checkList(t, l, plainApart(l, parts, classes), plainTogether(l, all, classes))
			for _, r := range alphabet {
				longer = append(longer, append(slices.Clip(l), r))
			}
		}
		lists = longer
	}
}

func checkList(t *testing.T, l, apart, together []rune) {
	t.Helper()
	expectApart(t, l, apart)
	expectTogether(t, l, together)
	if !compose.Stable(apart) {
		t.Errorf("%x, taken apart, isn't stable: %x", l, apart)
	}
	once := compose.Together(apart)
	expectApart(t, once, apart)
	expectTogether(t, once, once)
}

// R5: what is handed in stays as it is, its spare room too, and what is
// answered is new.
func TestListsAreLeft(t *testing.T) {
	for _, whole := range [][]rune{
		{'e', 0x302, 0x301, 0x327, 'x', 'y'},
		{'e', 0x301, 'e', 0x301, 'x', 'y'},
		{'e', 0x327, 'e', 0x301, 'x', 'y'},
		{0xe9, 0x327, 0xac01, 0xac01, 'x', 'y'},
		{'a', 'b', 'c', 'd', 'x', 'y'},
	} {
		list := slices.Clone(whole)
		for _, f := range []func([]rune) []rune{compose.Apart, compose.Together} {
			first, second := f(list[:4]), f(list[:4])
			for at := range first {
				first[at] = 'z'
			}
			if slices.Contains(second, 'z') {
				t.Errorf("a second list hangs on the first: %x", second)
			}
			_ = append(second, 'z', 'z', 'z')
		}
		compose.Stable(list[:4])
		if !slices.Equal(list, whole) {
			t.Errorf("the list was %x, and is now %x", whole, list)
		}
	}
}
