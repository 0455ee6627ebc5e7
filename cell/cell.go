// Package cell is layer 2: the gate, and what is shared: cells, numbers, marks. See shared/doc/02-cell.md.
package cell

import (
	"sync/atomic"

	"larch/api"
)

// Cell holds a pointer to a thing, or nil.
type Cell[T any] struct {
	held atomic.Pointer[T]
}

// New: a cell that holds p.
func New[T any](p *T) *Cell[T] {
	c := new(Cell[T])
	c.held.Store(p)
	return c
}

// word: where c holds what it holds. No call may panic, so a nil c is taken for a zero one that keeps nothing.
func (c *Cell[T]) word() *atomic.Pointer[T] {
	if c == nil {
		return new(atomic.Pointer[T])
	}
	return &c.held
}

// Load: what it holds.
func (c *Cell[T]) Load(g Gate) *T {
	pass(g, api.Load)
	return c.word().Load()
}

// Store: it holds p.
func (c *Cell[T]) Store(g Gate, p *T) {
	pass(g, api.Store)
	c.word().Store(p)
}

// Swap: it holds p; what it held.
func (c *Cell[T]) Swap(g Gate, p *T) *T {
	pass(g, api.Swap)
	return c.word().Swap(p)
}

// Cas: if it holds that very thing, it holds p; did it?
func (c *Cell[T]) Cas(g Gate, old, p *T) bool {
	pass(g, api.Cas)
	return c.word().CompareAndSwap(old, p)
}
