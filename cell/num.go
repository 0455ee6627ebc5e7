package cell

import (
	"sync/atomic"

	"larch/api"
)

// Num holds a number.
type Num struct {
	held atomic.Int64
}

// NewNum: it holds n.
func NewNum(n int) *Num {
	c := new(Num)
	c.held.Store(int64(n))
	return c
}

// word: where c holds what it holds; a nil c is taken for a zero one that keeps nothing.
func (c *Num) word() *atomic.Int64 {
	if c == nil {
		return new(atomic.Int64)
	}
	return &c.held
}

// Load: what it holds.
func (c *Num) Load(g Gate) int {
	pass(g, api.Load)
	return int(c.word().Load())
}

// Store: it holds n.
func (c *Num) Store(g Gate, n int) {
	pass(g, api.Store)
	c.word().Store(int64(n))
}

// Add: it holds d more; what it holds now.
func (c *Num) Add(g Gate, d int) int {
	pass(g, api.Add)
	return int(c.word().Add(int64(d)))
}

// Swap: it holds n; what it held.
func (c *Num) Swap(g Gate, n int) int {
	pass(g, api.Swap)
	return int(c.word().Swap(int64(n)))
}

// Cas: if it holds old, it holds n; did it?
func (c *Num) Cas(g Gate, old, n int) bool {
	pass(g, api.Cas)
	return c.word().CompareAndSwap(int64(old), int64(n))
}

// And: bit by bit and m; what it held.
func (c *Num) And(g Gate, m int) int {
	pass(g, api.And)
	return int(c.word().And(int64(m)))
}

// Or: bit by bit or m; what it held.
func (c *Num) Or(g Gate, m int) int {
	pass(g, api.Or)
	return int(c.word().Or(int64(m)))
}
