package agenda

import "cmp"

// order holds two items against each other: the one that stands ahead is the lesser one.
// Items of one Period, Rank and Id have nothing else to tell them apart by, so which of them was put in earlier needs no keeping.
func order(x, y Item) int {
	return cmp.Or(
		cmp.Compare(x.Period, y.Period),
		cmp.Compare(y.Rank, x.Rank),
		cmp.Compare(x.Id, y.Id),
	)
}

// queue is a heap: the item that stands ahead of all others is first.
type queue []Item

func (q queue) Len() int { return len(q) }

func (q queue) Less(i, j int) bool { return order(q[i], q[j]) < 0 }

func (q queue) Swap(i, j int) { q[i], q[j] = q[j], q[i] }

// Push is called by package heap.
func (q *queue) Push(x any) { *q = append(*q, x.(Item)) }

// Pop is called by package heap.
func (q *queue) Pop() any {
	last := len(*q) - 1
	x := (*q)[last]
	*q = (*q)[:last]
	return x
}
