package ids

import (
	"container/heap"
	"sort"
)

// waiting is a heap, the least number first: how its numbers are ordered is
// promoted from the slice's type.
type waiting struct {
	sort.IntSlice
}

// add and least spare their callers the library's values of any type.
func (w *waiting) add(n int) {
	heap.Push(w, n)
}

func (w *waiting) least() int {
	return heap.Pop(w).(int)
}

func (w *waiting) Push(n any) {
	w.IntSlice = append(w.IntSlice, n.(int))
}

func (w *waiting) Pop() any {
	last := w.Len() - 1
	n := w.IntSlice[last]
	w.IntSlice = w.IntSlice[:last]
	return n
}
