package fields_test

import (
	"math"
	"strings"
	"testing"

	"toponym/fields"
)

func expectText(t *testing.T, want string, write func(w *fields.Writer)) {
	t.Helper()
	var w fields.Writer
	write(&w)
	if b := w.Text(); b != want {
		t.Errorf("Text() = % x; want % x", b, want)
	}
}

// What is written of each kind of field, and of several.
func TestWriter(t *testing.T) {
	expectText(t, "", func(w *fields.Writer) {})
	expectText(t, "\x01\x02", func(w *fields.Writer) { w.Number(258, 2) })
	expectText(t, "\x00\x0f\x42\x40", func(w *fields.Writer) { w.Number(1000000, 4) })
	expectText(t, "\x7f\xff\xff\xff\xff\xff\xff\xff", func(w *fields.Writer) { w.Number(math.MaxInt64, 8) })
	expectText(t, "\x80\x00\x00\x00\x00\x00\x00\x00", func(w *fields.Writer) { w.Number(math.MinInt64, 8) })
	expectText(t, "\x00", func(w *fields.Writer) { w.Name("") })
	expectText(t, "\x02\xe9/", func(w *fields.Writer) { w.Name("\xe9/") })
	expectText(t, "\xff"+strings.Repeat("a", 255), func(w *fields.Writer) { w.Name(strings.Repeat("a", 255)) })
	expectText(t, "\x01\x00\x01a\x07", func(w *fields.Writer) {
		w.Flag(true)
		w.Flag(false)
		w.Name("a")
		w.Number(7, 1)
	})
}

// What is read is what was written, and the end isn't past yet.
func TestReader(t *testing.T) {
	r := fields.NewReader("\x01\x02\x02\xe9/\x01\x00\x02\x00\xff\xff\xff\xff\xff\xff\xff\xfe")
	if n := r.Number(2); n != 258 {
		t.Errorf("Number(2) = %d", n)
	}
	if s := r.Name(); s != "\xe9/" {
		t.Errorf("Name() = %q", s)
	}
	for i, want := range []bool{true, false, false} {
		if is := r.Flag(); is != want {
			t.Errorf("Flag() = %t, at %d", is, i)
		}
	}
	if s := r.Name(); s != "" {
		t.Errorf("Name() = %q", s)
	}
	if n := r.Number(8); n != -2 {
		t.Errorf("Number(8) = %d", n)
	}
	if n := r.Number(0); n != 0 || r.Past() {
		t.Errorf("Number(0) = %d, %t", n, r.Past())
	}
}

// Where there is less than is asked for, that is read, and then nothing.
func TestReaderPast(t *testing.T) {
	for _, read := range []func(r *fields.Reader){
		func(r *fields.Reader) {
			if n := r.Number(4); n != 0x0561 {
				t.Errorf("Number(4) = %d", n)
			}
		},
		func(r *fields.Reader) {
			if s := r.Name(); s != "a" {
				t.Errorf("Name() = %q", s)
			}
		},
	} {
		r := fields.NewReader("\x05a")
		read(&r)
		if !r.Past() || r.Number(8) != 0 || r.Name() != "" || r.Flag() || !r.Past() {
			t.Error("something is read behind the end")
		}
	}
}
