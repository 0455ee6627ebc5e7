package snap

import (
	"slices"

	"larch/cell"
)

// row is the registers. Each holds a pointer to a number; none is ever nil.
type row []cell.Cell[int]

func rowOf(regs []int) row {
	r := make(row, len(regs))
	for i, n := range regs {
		r[i].Store(nil, made(n))
	}
	return r
}

// made: a number that is made anew, so that a register which gets an equal one is seen to have changed.
func made(n int) *int { return &n }

func (r row) held() []int { return numbers(r.collect(nil)) }

// do: the accesses of an operation, through the gate, and what it answers.
func (r row) do(g cell.Gate, op Op) Ans {
	switch op.Kind {
	case Write:
		r[op.At].Store(g, made(op.A))
		return Ans{Ok: true}
	case Read:
		return Ans{Val: *r[op.At].Load(g), Ok: true}
	case Trade:
		return Ans{Val: *r[op.At].Swap(g, made(op.A)), Ok: true}
	case Turn:
		return r.turn(g, op)
	}
	all, collects := r.snap(g)
	return Ans{Val: collects, Ok: true, All: all}
}

func (r row) turn(g cell.Gate, op Op) Ans {
	found := r[op.At].Load(g)
	if *found != op.A {
		return Ans{Val: *found}
	}
	return Ans{Val: op.A, Ok: r[op.At].Cas(g, found, made(op.B))}
}

// snap: what all registers held at one moment, and after how many collects that was sure. While a collect's pointers are kept, none of them can come back for another number: registers with the same pointers twice haven't changed between the collects.
func (r row) snap(g cell.Gate) ([]int, int) {
	last := r.collect(g)
	for collects := 2; ; collects++ {
		next := r.collect(g)
		if slices.Equal(next, last) {
			return numbers(next), collects
		}
		last = next
	}
}

// collect: what each register holds, one behind the other.
func (r row) collect(g cell.Gate) []*int {
	found := make([]*int, len(r))
	for i := range r {
		found[i] = r[i].Load(g)
	}
	return found
}

func numbers(found []*int) []int {
	all := make([]int, len(found))
	for i, p := range found {
		all[i] = *p
	}
	return all
}
