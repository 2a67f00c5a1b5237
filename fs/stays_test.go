package fs_test

import (
	"math"
	"slices"
	"testing"

	"toponym/api"
	"toponym/image"
)

// P17.4, R5: what was answered stays as it is, whatever is called behind it; and
// what is done to it isn't seen by others.
func TestAnswersStay(t *testing.T) {
	for enc := range encodings {
		k := small(t, 100, enc)
		names, next, _ := k.f.List("/", 0, 64)
		again, _, _ := k.f.List("/", 0, 64)
		first, _ := k.f.Raw("/" + face90)
		tr := k.f.Tree()
		was, kept := slices.Clone(names), image.Encode(tr)
		k.do(t, renames("/a", "/n"), removes("/f", false), plants("/", stars(91), true), makes("/a", false), removes("/"+face90, false), makes("/n/b/x", true), syncs())
		k.remount(t)
		k.do(t, renames("/n/b", "/b"), removes("/a", false))
		if !slices.Equal(names, was) || !slices.Equal(again, was) || next != 6 || first != stars(90) || image.Encode(tr) != kept {
			t.Errorf("%d: what was answered is %+q, %+q, %d, %q and % x", enc, names, again, next, first, image.Encode(tr))
		}
		names, _, _ = k.f.List("/", 0, 64)
		was = slices.Clone(names)
		for i := range names {
			names[i] = "changed"
		}
		_ = append(names[:1], "more")
		k.expectNames(t, "/", was...)
		k.expectState(t)
	}
}

// P17.4, R5: a tree that was handed out is worked on by whoever has it alone.
func TestTreesStay(t *testing.T) {
	for enc := range encodings {
		k := small(t, 100, enc)
		a, b := k.f.Tree(), k.f.Tree()
		kept := image.Encode(b)
		a.Unlink(0, "f", false)
		a.Move(0, "e", 1, "e", 0)
		a.Link(0, "n", true, 0)
		if image.Encode(b) != kept {
			t.Errorf("%d: two trees hang on one another", enc)
		}
		k.expectState(t)
		k.do(t, makes("/n", false))
		k.expectNode(t, "/n", 7, false, "n")
		k.expectMounted(t)
	}
}

// R4, P1: a row of all that goes wrong, and of all that asks, leaves a disk as it
// was, and what it does next, too.
func TestNothingChanged(t *testing.T) {
	for enc := range encodings {
		k, other := small(t, 100, enc), small(t, 100, enc)
		for range 2 {
			for _, c := range append(wrongs(), asking()...) {
				k.try(t, c)
			}
			if k.state() != other.state() {
				t.Fatalf("%d: something has changed", enc)
			}
			for _, c := range []call{makes("/n", true), plants("/n", stars(90), false), renames("/f", "/n/f"), removes("/e", true), syncs()} {
				if got, want := k.try(t, c), other.try(t, c); got != want {
					t.Errorf("%d: %s = %s; want %s", enc, c.what, got, want)
				}
			}
			for _, d := range []*disk{k, other} {
				d.do(t, renames("/n/f", "/f"), makes("/e", true), removes("/n/"+face90, false), removes("/n", true))
			}
		}
	}
}

// R1: whatever the arguments are, each call answers as the chapters say.
func TestAnyArguments(t *testing.T) {
	draw := drawer()
	const some = "/////abcdef.%2*~\x00\xff\xc3\xa9\xcc\x81\x83"
	numbers := []int{math.MinInt, -1 << 32, -1, 0, 1, 2, 63, 64, 65, 1 << 31, 1 << 32, math.MaxInt}
	came := map[api.Errno]int{}
	for round := range 9 * 4 {
		k := small(t, 16+round, round%encodings)
		text := func() string {
			b := make([]byte, draw(6)*draw(6))
			for i := range b {
				b[i] = some[draw(len(some))]
				if draw(5) == 0 {
					b[i] = byte(draw(256))
				}
			}
			if len(b) > 0 && draw(4) > 0 {
				b[0] = '/'
			}
			if draw(50) == 0 {
				return string(b) + letters(draw(2000))
			}
			return string(b)
		}
		for range 120 {
			a, b, is := text(), text(), draw(2) == 0
			at, n := numbers[draw(len(numbers))], numbers[draw(len(numbers))]
			for _, c := range []call{lookup(a), raw(a), list(a, int64(at), n), list("/", int64(at), n), makes(a, is), removes(a, is), renames(a, b), renames("/f", b), plants(a, b, is), plants("/", b, is), removes("/a", is)} {
				came[k.try(t, c).err]++
			}
		}
		k.expectFaces(t)
		k.expectMounted(t)
	}
	for err := range api.ErrCursor + 1 {
		none := err == api.ErrForm || err == api.ErrLost || err == api.ErrMany || err == api.ErrLoop || err == api.ErrFull
		if !none && came[err] < 10 {
			t.Errorf("%d came %d times", err, came[err])
		}
	}
}
