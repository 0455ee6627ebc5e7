package count

import "larch/cell"

// none stands for no lock, no thread, no pick.
const none = -1

// What a lock's cell holds.
const (
	open   = 0
	closed = 1
)

// hand does operations on cells that others use at the same time.
type hand struct {
	nums  []cell.Num
	gate  cell.Gate // asked ahead of each access; nil: nobody is
	holds int       // the cell of the lock that it holds, or none
}

// do: the accesses of an operation, and what it answers.
func (h *hand) do(op Op) (int, bool) {
	switch op.Kind {
	case Inc:
		return h.inc(&h.nums[op.At], op.A), true
	case Plus:
		return h.nums[op.At].Add(h.gate, op.A), true
	case Top:
		return h.top(&h.nums[op.At], op.A)
	case Ticket:
		return h.nums[op.At].Add(h.gate, 1), true
	case Take:
		return h.take(&h.nums[op.At])
	case Sum:
		return h.sum(), true
	}
	return h.locked(op.At, op.A), true
}

func (h *hand) inc(c *cell.Num, more int) int {
	for {
		v := c.Load(h.gate)
		if c.Cas(h.gate, v, v+more) {
			return v + more
		}
	}
}

func (h *hand) top(c *cell.Num, least int) (int, bool) {
	for {
		v := c.Load(h.gate)
		if v >= least {
			return v, false
		}
		if c.Cas(h.gate, v, least) {
			return least, true
		}
	}
}

func (h *hand) take(c *cell.Num) (int, bool) {
	for {
		v := c.Load(h.gate)
		if v <= 0 {
			return v, false
		}
		if c.Cas(h.gate, v, v-1) {
			return v - 1, true
		}
	}
}

func (h *hand) sum() int {
	all := 0
	for i := range h.nums {
		all += h.nums[i].Load(h.gate)
	}
	return all
}

func (h *hand) locked(lock, counted int) int {
	for !h.nums[lock].Cas(h.gate, open, closed) {
	}
	h.holds = lock
	v := h.nums[counted].Load(h.gate) + 1
	h.nums[counted].Store(h.gate, v)
	h.nums[lock].Store(h.gate, open)
	h.holds = none
	return v
}

func numsOf(cells []int) []cell.Num {
	nums := make([]cell.Num, len(cells))
	for i, n := range cells {
		nums[i].Store(nil, n)
	}
	return nums
}

func held(nums []cell.Num) []int {
	cells := make([]int, len(nums))
	for i := range nums {
		cells[i] = nums[i].Load(nil)
	}
	return cells
}
