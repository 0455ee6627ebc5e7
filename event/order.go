package event

import "larch/api"

// Ahead: did operation i return ahead of j's invocation?
func Ahead(h []api.Event, i, j int) (bool, api.Errno) {
	spans, e := spansOf(h)
	if e != api.OK {
		return false, e
	}
	if !isNumber(i, spans) || !isNumber(j, spans) {
		return false, api.ErrArg
	}
	return spans[i].isAheadOf(spans[j]), api.OK
}

// Pending: the operations that haven't returned.
func Pending(h []api.Event) ([]int, api.Errno) {
	spans, e := spansOf(h)
	if e != api.OK {
		return nil, e
	}
	var numbers []int
	for i, s := range spans {
		if !s.hasReturned() {
			numbers = append(numbers, i)
		}
	}
	return numbers, api.OK
}

// Width: how many operations are under way at once, at most.
func Width(h []api.Event) (int, api.Errno) {
	if e := Check(h); e != api.OK {
		return 0, e
	}
	most, now := 0, 0
	for _, e := range h {
		if e.Return {
			now--
		} else {
			now++
		}
		most = max(most, now)
	}
	return most, api.OK
}

// Row: do the operations stand one behind another?
func Row(h []api.Event) (bool, api.Errno) {
	width, e := Width(h)
	return e == api.OK && width <= 1, e
}

// Fits: is it an order of the history: each returned operation and any pending ones, once each, and none behind one that it returned ahead of?
func Fits(h []api.Event, order []int) (bool, api.Errno) {
	spans, e := spansOf(h)
	if e != api.OK {
		return false, e
	}
	stands := make([]bool, len(spans))
	var latest span // of those that stand before, the one invoked last: who is ahead of any of them is ahead of it
	for _, i := range order {
		if !isNumber(i, spans) || stands[i] || spans[i].isAheadOf(latest) {
			return false, api.OK
		}
		stands[i] = true
		if spans[i].from > latest.from {
			latest = spans[i]
		}
	}
	for i, s := range spans {
		if s.hasReturned() && !stands[i] {
			return false, api.OK
		}
	}
	return true, api.OK
}

// Orders: how many orders of all returned operations there are.
func Orders(h []api.Event) (int, api.Errno) {
	spans, e := spansOf(h)
	if e != api.OK {
		return 0, e
	}
	var returned []span
	for _, s := range spans {
		if s.hasReturned() {
			returned = append(returned, s)
		}
	}
	if len(returned) > MaxOrders {
		return 0, api.ErrBig
	}
	return countOrders(returned), api.OK
}

// countOrders goes through the sets of operations, a bit each: a set's orders are those of each set that lacks one of it, with that one behind.
func countOrders(spans []span) int {
	before := make([]int, len(spans)) // of each the set of those that are ahead of it
	for i, s := range spans {
		for j, other := range spans {
			if other.isAheadOf(s) {
				before[i] |= 1 << j
			}
		}
	}
	orders := make([]int, 1<<len(spans))
	orders[0] = 1
	for set := range orders {
		for i := range spans {
			if set&(1<<i) == 0 && before[i]&^set == 0 {
				orders[set|1<<i] += orders[set]
			}
		}
	}
	return orders[len(orders)-1]
}

func isNumber(i int, spans []span) bool {
	return i >= 0 && i < len(spans)
}
