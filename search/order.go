package search

import (
	"iter"
	"slices"

	"larch/api"
	"larch/event"
	"larch/model"
)

// Find: the first order in which the history is right.
func Find(thing int, s State, h []api.Event) ([]int, bool, api.Errno) {
	p, e := problemOf(thing, s, h)
	if e != api.OK {
		return nil, false, e
	}
	for order := range p.orders() {
		return slices.Clone(order), true, api.OK
	}
	return nil, false, api.OK
}

// Is: is the history right in that order?
func Is(thing int, s State, h []api.Event, order []int) (bool, api.Errno) {
	p, e := problemOf(thing, s, h)
	if e != api.OK {
		return false, e
	}
	if fits, _ := event.Fits(h, order); !fits {
		return false, api.OK
	}
	ops := make([]api.Op, len(order))
	for at, i := range order {
		ops[at] = p.calls[i].Op
	}
	_, rets := run(thing, s, ops...)
	for at, i := range order {
		if !agrees(p.calls[i], rets[at]) {
			return false, api.OK
		}
	}
	return true, api.OK
}

// Count: in how many orders it is right.
func Count(thing int, s State, h []api.Event) (int, api.Errno) {
	p, e := problemOf(thing, s, h)
	if e != api.OK {
		return 0, e
	}
	n := 0
	for range p.orders() {
		n++
	}
	return n, api.OK
}

// Ends: the states to which these orders come.
func Ends(thing int, s State, h []api.Event) ([]State, api.Errno) {
	p, e := problemOf(thing, s, h)
	if e != api.OK {
		return nil, e
	}
	var ends []State
	var name []byte
	known := make(map[string]struct{}) // by their names: there may be as many states as orders
	for _, end := range p.orders() {
		name = appendName(name[:0], end)
		if _, is := known[string(name)]; !is {
			known[string(name)] = struct{}{}
			ends = append(ends, end)
		}
	}
	return ends, api.OK
}

// appendName: unlike states of one thing have unlike names.
func appendName(name []byte, s State) []byte {
	for _, n := range s.Vals {
		name = appendNumber(name, n)
	}
	for _, p := range s.Pairs {
		name = appendNumber(appendNumber(name, p.Key), p.Val)
	}
	return name
}

// appendNumber: all numbers take the same room, so that no mark is needed between them.
func appendNumber(name []byte, n int) []byte {
	u := uint64(n)
	return append(name, byte(u), byte(u>>8), byte(u>>16), byte(u>>24), byte(u>>32), byte(u>>40), byte(u>>48), byte(u>>56))
}

// problem is a history whose orders are asked. A set of its operations is a number that has a bit for each.
type problem struct {
	thing    int
	start    State
	calls    []event.Call
	returned int   // the set of those that have to be in an order
	before   []int // of each operation the set of those that are ahead of it
}

func problemOf(thing int, s State, h []api.Event) (problem, api.Errno) {
	if e := Check(thing, s); e != api.OK {
		return problem{}, e
	}
	calls, e := event.Calls(h)
	if e != api.OK {
		return problem{}, api.ErrForm
	}
	for _, c := range calls {
		if !hasKind(thing, c.Op.Kind) {
			return problem{}, api.ErrKind
		}
	}
	if len(calls) > MaxSearch {
		return problem{}, api.ErrBig
	}
	p := problem{thing: thing, start: s, calls: calls, before: make([]int, len(calls))}
	for i, c := range calls {
		if !hasReturned(c) {
			continue
		}
		p.returned |= 1 << i
		for j, other := range calls {
			if c.To < other.From {
				p.before[j] |= 1 << i
			}
		}
	}
	return p, api.OK
}

func hasReturned(c event.Call) bool {
	return c.To >= 0
}

// agrees: of a pending operation no answer is asked.
func agrees(c event.Call, ret api.Ret) bool {
	return !hasReturned(c) || model.SameRet(c.Ret, ret)
}

// orders: the orders in which the history is right, lexicographically, each with the state to which it comes. An order stays as it is only till the next one; the states are apart.
func (p problem) orders() iter.Seq2[[]int, State] {
	return func(yield func(order []int, end State) bool) {
		now, _ := run(p.thing, p.start)
		p.grow(make([]int, 0, len(p.calls)), 0, now, yield)
	}
}

// grow yields the order, if the history is right in it, and then all such that go on from it; in is the set of its operations, now the state to which they come. It answers whether more are wanted.
func (p problem) grow(order []int, in int, now State, yield func(order []int, end State) bool) bool {
	if p.returned&^in == 0 && !yield(order, now) {
		return false
	}
	for i, c := range p.calls {
		if in&(1<<i) != 0 || p.before[i]&^in != 0 {
			continue
		}
		next, rets := run(p.thing, now, c.Op)
		if agrees(c, rets[0]) && !p.grow(append(order, i), in|1<<i, next, yield) {
			return false
		}
	}
	return true
}
