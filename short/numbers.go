package short

import "container/heap"

// numbers is a heap, the least one first.
type numbers []int

// add and least spare their callers the library's values of any type.
func (h *numbers) add(n int) {
	heap.Push(h, n)
}

func (h *numbers) least() int {
	return heap.Pop(h).(int)
}

func (h numbers) Len() int {
	return len(h)
}

func (h numbers) Less(i, j int) bool {
	return h[i] < h[j]
}

func (h numbers) Swap(i, j int) {
	h[i], h[j] = h[j], h[i]
}

func (h *numbers) Push(n any) {
	*h = append(*h, n.(int))
}

func (h *numbers) Pop() any {
	last := len(*h) - 1
	n := (*h)[last]
	*h = (*h)[:last]
	return n
}
