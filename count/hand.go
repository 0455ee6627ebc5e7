package count

import "larch/cell"

// none stands for no lock, no thread.
const none = -1

// What a lock's cell holds.
const (
	open   = 0
	closed = 1
)

// hand does operations on cells that others use at the same time.
type hand struct {
	nums  []cell.Num
	gate  cell.Gate // asked ahead of each access; nil: nobody is
	holds int       // the cell of the lock that it holds, or none
}

func newHand(nums []cell.Num) *hand {
	return &hand{nums: nums, holds: none}
}

// out is what an operation answered.
type out struct {
	val int
	ok  bool
}

// do: the accesses of an operation, through the gate, and what it answers.
func (h *hand) do(g cell.Gate, op Op) out {
	h.gate = g
	switch op.Kind {
	case Inc:
		return out{h.inc(&h.nums[op.At], op.A), true}
	case Plus:
		return out{h.nums[op.At].Add(g, op.A), true}
	case Top:
		return h.top(&h.nums[op.At], op.A)
	case Ticket:
		return out{h.nums[op.At].Add(g, 1), true}
	case Take:
		return h.take(&h.nums[op.At])
	case Sum:
		return out{h.sum(), true}
	}
	return out{h.locked(op.At, op.A), true}
}

func (h *hand) inc(c *cell.Num, more int) int {
	for {
		v := c.Load(h.gate)
		if c.Cas(h.gate, v, v+more) {
			return v + more
		}
	}
}

func (h *hand) top(c *cell.Num, least int) out {
	for {
		v := c.Load(h.gate)
		if v >= least {
			return out{v, false}
		}
		if c.Cas(h.gate, v, least) {
			return out{least, true}
		}
	}
}

func (h *hand) take(c *cell.Num) out {
	for {
		v := c.Load(h.gate)
		if v <= 0 {
			return out{v, false}
		}
		if c.Cas(h.gate, v, v-1) {
			return out{v - 1, true}
		}
	}
}

func (h *hand) sum() int {
	all := 0
	for i := range h.nums {
		all += h.nums[i].Load(h.gate)
	}
	return all
}

func (h *hand) locked(lock, counted int) int {
	for !h.nums[lock].Cas(h.gate, open, closed) {
	}
	h.holds = lock
	v := h.nums[counted].Load(h.gate) + 1
	h.nums[counted].Store(h.gate, v)
	h.nums[lock].Store(h.gate, open)
	h.holds = none
	return v
}

func numsOf(cells []int) []cell.Num {
	nums := make([]cell.Num, len(cells))
	for i, n := range cells {
		nums[i].Store(nil, n)
	}
	return nums
}

func held(nums []cell.Num) []int {
	cells := make([]int, len(nums))
	for i := range nums {
		cells[i] = nums[i].Load(nil)
	}
	return cells
}
