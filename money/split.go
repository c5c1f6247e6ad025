package money

import (
	"container/heap"
	"math/bits"

	"variorum/api"
)

const (
	maxWeights = 20
	maxWeight  = 1_000_000
)

// Split tells parts of an amount.
func Split(a int, weights ...int) ([]int, api.Errno) {
	total, ok := totalWeight(weights)
	if !ok || !Fits(a) {
		return nil, api.ErrArg
	}
	shares, cut := cutShares(size(a), weights, total)
	left := size(a)
	for _, s := range shares {
		left -= s
	}
	// Each share lost less than one, so less is left than there are parts that were cut.
	for range left {
		shares[heap.Pop(&cut).(rest).part]++
	}
	parts := make([]int, len(shares))
	for i, s := range shares {
		parts[i] = withSign(s, a)
	}
	return parts, api.OK
}

// totalWeight tells the sum of weights, and whether one may split by them.
func totalWeight(weights []int) (uint64, bool) {
	if len(weights) > maxWeights {
		return 0, false
	}
	total := 0
	for _, w := range weights {
		if w < 0 || w > maxWeight {
			return 0, false
		}
		total += w
	}
	return uint64(total), total > 0
}

// cutShares tells each part's share of whole, rounded down, and what was cut off.
func cutShares(whole uint64, weights []int, total uint64) ([]uint64, rests) {
	shares := make([]uint64, len(weights))
	var cut rests
	for i, w := range weights {
		high, low := bits.Mul64(whole, uint64(w))
		// No weight is above the total, so a share is at most whole, and Div64 has room for it.
		share, off := bits.Div64(high, low, total)
		shares[i] = share
		heap.Push(&cut, rest{part: i, off: off})
	}
	return shares, cut
}

// rest is what was cut off the share of a part, in pieces of one by the total weight.
type rest struct {
	part int
	off  uint64
}

// rests is a heap: the one that was cut the most is first, the earlier part of equal ones.
type rests []rest

func (r rests) Len() int { return len(r) }

func (r rests) Less(i, j int) bool {
	if r[i].off != r[j].off {
		return r[i].off > r[j].off
	}
	return r[i].part < r[j].part
}

func (r rests) Swap(i, j int) { r[i], r[j] = r[j], r[i] }

// Push is called by package heap.
func (r *rests) Push(x any) { *r = append(*r, x.(rest)) }

// Pop is called by package heap.
func (r *rests) Pop() any {
	last := len(*r) - 1
	x := (*r)[last]
	*r = (*r)[:last]
	return x
}
