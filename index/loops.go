package index

import (
	"iter"
	"math"

	"larch/api"
)

// All: the pairs of one moment, rising.
func (h *Handle) All() iter.Seq2[int, int] {
	return func(yield func(key, val int) bool) {
		for _, p := range h.whole() {
			if !yield(p.Key, p.Val) {
				return
			}
		}
	}
}

func (h *Handle) whole() []api.Pair { return h.Range(math.MinInt, math.MaxInt) }

// Up: the pairs from lo on, rising, each of a moment of its own.
func (h *Handle) Up(lo int) iter.Seq2[int, int] {
	return loop(func() (api.Pair, bool) { return h.atLeast(lo) }, h.Successor)
}

// Down: the pairs from hi on, falling, each of a moment of its own.
func (h *Handle) Down(hi int) iter.Seq2[int, int] {
	return loop(func() (api.Pair, bool) { return h.atMost(hi) }, h.Predecessor)
}

// loop: the first pair, then the next one behind each, asked when the loop comes to it.
func loop(first func() (api.Pair, bool), next func(key int) (api.Pair, bool)) iter.Seq2[int, int] {
	return func(yield func(key, val int) bool) {
		p, ok := first()
		for ok && yield(p.Key, p.Val) {
			p, ok = next(p.Key)
		}
	}
}

// atLeast: the least pair whose key is lo or above it. One asks by the int below lo, and the least one has none.
func (h *Handle) atLeast(lo int) (api.Pair, bool) {
	if lo == math.MinInt {
		return h.Min()
	}
	return h.Successor(lo - 1)
}

// atMost: the greatest pair whose key is hi or below it.
func (h *Handle) atMost(hi int) (api.Pair, bool) {
	if hi == math.MaxInt {
		return h.Max()
	}
	return h.Predecessor(hi + 1)
}
