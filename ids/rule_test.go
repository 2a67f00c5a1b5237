package ids_test

import (
	"slices"
	"strconv"
	"testing"

	"toponym/ids"
)

// ruled says the chapter over again: a number of its list is asked whether it
// is out, from 1 on.
type ruled struct {
	isOut []bool
}

func newRuled(most int, out []int) *ruled {
	r := &ruled{isOut: make([]bool, most+1)}
	for n := range r.isOut {
		r.isOut[n] = n == 0 || slices.Contains(out, n)
	}
	return r
}

func (r *ruled) take() (int, bool) {
	n := slices.Index(r.isOut, false)
	if n < 0 {
		return 0, false
	}
	r.isOut[n] = true
	return n, true
}

func (r *ruled) give(n int) bool {
	if n < 1 || n >= len(r.isOut) || !r.isOut[n] {
		return false
	}
	r.isOut[n] = false
	return true
}

func (r *ruled) numbers(out bool) []int {
	var l []int
	for n := 1; n < len(r.isOut); n++ {
		if r.isOut[n] == out {
			l = append(l, n)
		}
	}
	return l
}

func (r *ruled) clone() *ruled {
	return &ruled{slices.Clone(r.isOut)}
}

// pair is a pool, and what the chapter says of it.
type pair struct {
	p *ids.Pool
	r *ruled
}

func newPair(most int, out []int) pair {
	return pair{ids.New(most, out...), newRuled(most, out)}
}

func (x pair) clone() pair {
	return pair{x.p.Clone(), x.r.clone()}
}

// takes is the call that takes; others give their number back.
const takes = -100

func callName(call int) string {
	if call == takes {
		return "Take"
	}
	return "Give " + strconv.Itoa(call)
}

func (x pair) do(t *testing.T, call int) {
	t.Helper()
	if call == takes {
		n, ok := x.r.take()
		expectTake(t, x.p, n, ok)
	} else if want := x.r.give(call); x.p.Give(call) != want {
		t.Errorf("Give(%d) = %t; want %t", call, !want, want)
	}
	expectOut(t, x.p, len(x.r.numbers(true)))
}

// expectEnd takes all that are left, of a pool that is made anew with those
// that are out, of a clone, and of the pool.
func (x pair) expectEnd(t *testing.T) {
	t.Helper()
	out, rest := x.r.numbers(true), x.r.numbers(false)
	anew := ids.New(len(x.r.isOut)-1, out...)
	expectOut(t, anew, len(out))
	expectRest(t, anew, rest...)
	expectRest(t, x.p.Clone(), rest...)
	expectRest(t, x.p, rest...)
}

func expectRow(t *testing.T, most int, out, row []int) {
	t.Helper()
	x := newPair(most, out)
	for _, call := range row {
		x.do(t, call)
	}
	x.expectEnd(t)
	if t.Failed() {
		t.Log("New", most, out)
		for _, call := range row {
			t.Log(callName(call))
		}
		t.FailNow()
	}
}

// rows are all rows of up to so many of the calls.
func rows[T any](calls []T, most int) [][]T {
	all := [][]T{nil}
	for next := 0; next < len(all); next++ {
		row := all[next]
		if len(row) == most {
			continue
		}
		for _, call := range calls {
			all = append(all, append(slices.Clone(row), call))
		}
	}
	return all
}

// subsets are all choices of l.
func subsets(l []int) [][]int {
	all := [][]int{nil}
	for _, n := range l {
		for _, some := range slices.Clone(all) {
			all = append(all, append(slices.Clone(some), n))
		}
	}
	return all
}

// P9.1, P9.2: all rows of up to five calls, those that answer false among them,
// on small pools, whoever is out at first.
func TestRows(t *testing.T) {
	for most := range 4 {
		calls := append(span(-1, most+1), takes)
		all := rows(calls, 5)
		for _, out := range subsets(span(1, most)) {
			for _, row := range all {
				expectRow(t, most, out, row)
			}
		}
	}
}

// P9.1, P9.2: all rows of up to six calls that may answer true.
func TestRowsFurther(t *testing.T) {
	for _, row := range rows([]int{takes, 1, 2, 3, 4}, 6) {
		expectRow(t, 5, []int{1, 2, 3, 4}, row)
		expectRow(t, 4, nil, row)
	}
}

// turn is a call of one of two: of the pool, 0, or of its clone, 1.
type turn struct {
	of, call int
}

// P9.1, P9.2: all rows of up to three calls, a Clone, and all rows of up to
// three turns of both behind it.
func TestCloneRows(t *testing.T) {
	calls := []int{takes, 1, 2, 3}
	var turns []turn
	for _, call := range calls {
		turns = append(turns, turn{0, call}, turn{1, call})
	}
	begin, end := rows(calls, 3), rows(turns, 3)
	for _, ahead := range begin {
		for _, behind := range end {
			x := newPair(4, []int{1, 2, 3})
			for _, call := range ahead {
				x.do(t, call)
			}
			both := []pair{x, x.clone()}
			for _, u := range behind {
				both[u.of].do(t, u.call)
			}
			both[0].expectEnd(t)
			both[1].expectEnd(t)
			if t.Failed() {
				t.Fatal(ahead, "Clone", behind)
			}
		}
	}
}
