package image_test

import (
	"strconv"
	"testing"

	"toponym/api"
	"toponym/image"
	"toponym/tree"
)

// greatest are trees that have as many nodes as may be, all of them
// directories with names of as many bytes as may be.
func greatest() []*tree.Tree {
	return []*tree.Tree{wide(true, padded), deep(padded)}
}

// P12.2: a tree comes again of its image, and gives what it would have given.
func TestComesAgain(t *testing.T) {
	for _, tr := range append(trees(), greatest()...) {
		expectLike(t, decoded(t, image.Encode(tr)), tr)
	}
}

// P12.2: likewise, of trees that came of many calls, and go on by the same.
func TestComesAgainDrawn(t *testing.T) {
	draw := drawer()
	for i := range 400 {
		tr := drawn(draw, i)
		b := image.Encode(tr)
		if b != ruledImage(tr) {
			t.Fatalf("Encode = % x; want % x", b, ruledImage(tr))
		}
		again := decoded(t, b)
		expectLike(t, again, tr)
		for range 20 {
			dirs := tr.Dirs()
			goOn(t, tr, again, dirs[draw(len(dirs))], dirs[draw(len(dirs))], draw)
		}
		expectLike(t, again, tr)
		if image.Encode(again) != image.Encode(tr) {
			t.Fatal("the images aren't the same behind the same calls")
		}
	}
}

// goOn does the same with both, and asks both for the same answers.
func goOn(t *testing.T, a, b *tree.Tree, dir, to int, draw func(n int) int) {
	t.Helper()
	name, as, isDir, short := strconv.Itoa(draw(10)), strconv.Itoa(draw(10)), draw(2) == 0, draw(3)
	if l, _ := a.List(dir); len(l) > 0 && draw(2) == 0 {
		name = l[draw(len(l))].Name
	}
	switch draw(3) {
	case 0:
		n, err := a.Link(dir, name, isDir, short)
		if m, other := b.Link(dir, name, isDir, short); n != m || err != other {
			t.Errorf("Link = %d, %d, and %d, %d", n, err, m, other)
		}
	case 1:
		if err, other := a.Unlink(dir, name, isDir), b.Unlink(dir, name, isDir); err != other {
			t.Errorf("Unlink = %d and %d", err, other)
		}
	case 2:
		if err, other := a.Move(dir, name, to, as, short), b.Move(dir, name, to, as, short); err != other {
			t.Errorf("Move = %d and %d", err, other)
		}
	}
}

// changes are calls of each kind on the sample, each of them by itself.
func changes() []func(tr *tree.Tree) {
	return []func(tr *tree.Tree){
		func(tr *tree.Tree) { link(tr, 0, "n", false, 0) },
		func(tr *tree.Tree) { link(tr, 3, "n", true, 7) },
		func(tr *tree.Tree) { link(tr, 6, "n", true, 0) },
		func(tr *tree.Tree) { unlink(tr, 0, "b", false) },
		func(tr *tree.Tree) { unlink(tr, 0, "c", true) },
		func(tr *tree.Tree) { unlink(tr, 6, "g", false) },
		func(tr *tree.Tree) { move(tr, 0, "a", 0, "n", 1) },
		func(tr *tree.Tree) { move(tr, 0, "a", 3, "a", 0) },
		func(tr *tree.Tree) { move(tr, 1, "a", 6, "b", 0) },
		func(tr *tree.Tree) { move(tr, 5, "e", 0, "e", 0) },
	}
}

// P12.1, R5, R7: what was decoded doesn't change with what was encoded, nor with
// another one of the same image, and the other way about.
func TestAlone(t *testing.T) {
	for _, change := range changes() {
		for _, other := range changes() {
			tr := sample()
			b := image.Encode(tr)
			first, second := decoded(t, b), decoded(t, b)
			change(tr)
			changed := tr.Clone()
			expectLike(t, first, sample())
			expectLike(t, second, sample())
			other(first)
			want := sample()
			other(want)
			expectLike(t, first, want)
			expectLike(t, second, sample())
			expectLike(t, tr, changed)
			if b != image.Encode(sample()) {
				t.Errorf("the image has become % x", b)
			}
		}
	}
}

// sizeOf adds up what the chapter lists.
func sizeOf(tr *tree.Tree) int {
	size := 8 + 2
	for _, dir := range tr.Dirs() {
		size += 2 + 2
		l, _ := tr.List(dir)
		for _, e := range l {
			size += 1 + len(e.Name) + 2 + 1 + 8 + 4
		}
	}
	return size
}

// P12.2: no image has more bytes than may be.
func TestSizes(t *testing.T) {
	l := append(trees(), greatest()...)
	draw := drawer()
	for i := range 50 {
		l = append(l, drawn(draw, i*20))
	}
	for _, tr := range l {
		if n := len(image.Encode(tr)); n != sizeOf(tr) || n > api.MaxImage {
			t.Errorf("the image has %d bytes; want %d, %d at most", n, sizeOf(tr), api.MaxImage)
		}
	}
}

// P12.2: the greatest trees' images, and these with a node more, or a byte.
func TestGreatest(t *testing.T) {
	const size = 8 + 2 + (api.MaxNodes+1)*4 + api.MaxNodes*(16+api.MaxRaw)
	for _, tr := range greatest() {
		b := image.Encode(tr)
		if len(b) != size || len(b) > api.MaxImage {
			t.Errorf("the image has %d bytes; want %d, %d at most", len(b), size, api.MaxImage)
		}
		expectLike(t, decoded(t, b), tr)
		for n := range uint64(256) {
			expectNoTree(t, b+number(n, 1))
		}
		l := looseOf(tr)
		l.cookie++
		l.blocks[0].parts = append(l.blocks[0].parts, part{"more", api.MaxNodes + 1, 0, api.MaxNodes + 1, 0})
		expectNoTree(t, l.bytes())
	}
}
