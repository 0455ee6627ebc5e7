package cell

import (
	"sync/atomic"

	"larch/api"
)

// Mark is set, or not.
type Mark struct {
	held atomic.Bool
}

// NewMark: set, or not.
func NewMark(set bool) *Mark {
	c := new(Mark)
	c.held.Store(set)
	return c
}

// word: where c holds what it holds; a nil c is taken for a zero one that keeps nothing.
func (c *Mark) word() *atomic.Bool {
	if c == nil {
		return new(atomic.Bool)
	}
	return &c.held
}

// Load: is it set?
func (c *Mark) Load(g Gate) bool {
	pass(g, api.Load)
	return c.word().Load()
}

// Store: it is set, or not.
func (c *Mark) Store(g Gate, set bool) {
	pass(g, api.Store)
	c.word().Store(set)
}

// Swap: the same; was it?
func (c *Mark) Swap(g Gate, set bool) bool {
	pass(g, api.Swap)
	return c.word().Swap(set)
}

// Cas: if it is as old, it becomes set; did it?
func (c *Mark) Cas(g Gate, old, set bool) bool {
	pass(g, api.Cas)
	return c.word().CompareAndSwap(old, set)
}
