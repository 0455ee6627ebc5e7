package search_test

import (
	"math"
	"math/rand"
	"slices"

	"larch/api"
	"larch/event"
	"larch/model"
	"larch/search"
)

// What the chapter says, word by word and slowly: the tests hold the package against it.

// all has the things.
var all = []int{search.Register, search.Counter, search.Stack, search.Queue, search.Map}

// mostKind: by thing.
var mostKind = []int{0, 3, 2, 2, 2, 9}

// edges are the numbers at which something could turn.
var edges = []int{math.MinInt, math.MinInt + 1, -1, 0, 1, 2, math.MaxInt - 1, math.MaxInt}

func vals(list ...int) search.State { return search.State{Vals: list} }

func pairs(list ...api.Pair) search.State { return search.State{Pairs: list} }

func sameState(a, b search.State) bool {
	return slices.Equal(a.Vals, b.Vals) && slices.Equal(a.Pairs, b.Pairs)
}

func sameStates(a, b []search.State) bool { return slices.EqualFunc(a, b, sameState) }

// isPlain: has it empty lists as empty, not as nil?
func isPlain(s search.State) bool { return s.Vals != nil && s.Pairs != nil }

// inForm: is it a state of the thing?
func inForm(thing int, s search.State) bool {
	switch thing {
	case search.Register, search.Counter:
		return len(s.Vals) == 1 && len(s.Pairs) == 0
	case search.Stack, search.Queue:
		return len(s.Pairs) == 0
	}
	for i := range s.Pairs {
		if i > 0 && s.Pairs[i].Key <= s.Pairs[i-1].Key {
			return false
		}
	}
	return len(s.Vals) == 0
}

// done: what the table of the things says of one operation on a state in form.
func done(thing int, s search.State, op api.Op) (search.State, api.Ret) {
	last := len(s.Vals) - 1
	switch thing*10 + op.Kind {
	case 11, 21:
		return s, api.Ret{Ok: true, Val: s.Vals[0]}
	case 12:
		return vals(op.Val), api.Ret{Ok: true}
	case 13:
		if s.Vals[0] == op.Key {
			return vals(op.Val), api.Ret{Ok: true}
		}
		return s, api.Ret{Ok: false}
	case 22:
		return vals(s.Vals[0] + op.Val), api.Ret{Ok: true, Val: s.Vals[0] + op.Val}
	case 31, 41:
		return vals(slices.Concat(s.Vals, []int{op.Val})...), api.Ret{Ok: true}
	case 32:
		if last < 0 {
			return s, api.Ret{Ok: false}
		}
		return vals(s.Vals[:last]...), api.Ret{Ok: true, Val: s.Vals[last]}
	case 42:
		if last < 0 {
			return s, api.Ret{Ok: false}
		}
		return vals(s.Vals[1:]...), api.Ret{Ok: true, Val: s.Vals[0]}
	}
	m, ret, _ := model.Do(s.Pairs, op)
	return pairs(m...), ret
}

// right: is the history right in the order, from the state? And to which state does it come?
func right(thing int, s search.State, calls []event.Call, order []int) (search.State, bool) {
	for at, i := range order {
		if i < 0 || i >= len(calls) || slices.Contains(order[:at], i) {
			return search.State{}, false
		}
	}
	for a, first := range calls {
		if first.To != -1 && !slices.Contains(order, a) {
			return search.State{}, false
		}
		for b, second := range calls {
			isAhead := first.To != -1 && first.To < second.From
			if isAhead && slices.Contains(order, b) && slices.Index(order, a) > slices.Index(order, b) {
				return search.State{}, false
			}
		}
	}
	for _, i := range order {
		var ret api.Ret
		s, ret = done(thing, s, calls[i].Op)
		if calls[i].To != -1 && !model.SameRet(ret, calls[i].Ret) {
			return search.State{}, false
		}
	}
	return s, true
}

// found: all orders in which it is right, lexicographically, and the states to which they come.
func found(thing int, s search.State, h []api.Event) ([][]int, []search.State) {
	var orders [][]int
	calls, _ := event.Calls(h)
	eachOrder(len(calls), func(order []int) {
		if _, is := right(thing, s, calls, order); is {
			orders = append(orders, slices.Clone(order))
		}
	})
	slices.SortFunc(orders, slices.Compare)
	var ends []search.State
	for _, order := range orders {
		end, _ := right(thing, s, calls, order)
		if !slices.ContainsFunc(ends, func(known search.State) bool { return sameState(known, end) }) {
			ends = append(ends, end)
		}
	}
	return orders, ends
}

// eachOrder calls look with every list of numbers from 0 to n - 1, each at most once.
func eachOrder(n int, look func(order []int)) {
	var order []int
	var grow func()
	grow = func() {
		look(order)
		for i := n - 1; i >= 0; i-- {
			if !slices.Contains(order, i) {
				order = append(order, i)
				grow()
				order = order[:len(order)-1]
			}
		}
	}
	grow()
}

func invoked(thread int, op api.Op) api.Event { return api.Event{Thread: thread, Op: op} }

func returned(thread int, op api.Op, ret api.Ret) api.Event {
	return api.Event{Thread: thread, Return: true, Op: op, Ret: ret}
}

// row: operations one behind the other, by threads in turn, with what the thing answers from that state.
func row(thing int, s search.State, ops ...api.Op) []api.Event {
	var h []api.Event
	for i, op := range ops {
		var ret api.Ret
		s, ret = done(thing, s, op)
		h = append(h, invoked(i%3, op), returned(i%3, op, ret))
	}
	return h
}

// alphabet: few operations of the thing, such that many orders are told apart.
func alphabet(thing int) []api.Op {
	switch thing {
	case search.Register:
		return []api.Op{{Kind: 1}, {Kind: 2, Val: 1}, {Kind: 3, Key: 1, Val: 2}, {Kind: 3, Val: 1}}
	case search.Counter:
		return []api.Op{{Kind: 1}, {Kind: 2, Val: 1}, {Kind: 2, Val: math.MaxInt}}
	case search.Map:
		return []api.Op{{Kind: api.Get, Key: 1}, {Kind: api.Put, Key: 1, Val: 1}, {Kind: api.Put, Key: 1, Val: 2}, {Kind: api.PutIfAbsent, Key: 2, Val: 3}, {Kind: api.Delete, Key: 1},
			{Kind: api.Successor, Key: 1}, {Kind: api.Predecessor, Key: 2}, {Kind: api.Min}, {Kind: api.Max}, {Kind: api.Range, Key: 0, Hi: 5}}
	}
	return []api.Op{{Kind: 1, Val: 1}, {Kind: 1, Val: 2}, {Kind: 2}}
}

// starts: few states of the thing.
func starts(thing int) []search.State {
	switch thing {
	case search.Register, search.Counter:
		return []search.State{vals(0), vals(1)}
	case search.Map:
		return []search.State{{}, pairs(api.Pair{Key: 1, Val: 2}), pairs(api.Pair{Key: 0, Val: 7}, api.Pair{Key: 2, Val: 3})}
	}
	return []search.State{{}, vals(2, 1)}
}

// someHistory: threads do operations at once; each takes effect at some moment within, but now and then an answer is spoilt.
func someHistory(r *rand.Rand, thing int, s search.State, threads, ops int) []api.Event {
	type under struct {
		op  api.Op
		ret api.Ret
		did bool
	}
	var h []api.Event
	way := make([]*under, threads)
	words := alphabet(thing)
	for moves := r.Intn(4 * ops); ops > 0 || moves > 0; moves-- {
		thread := r.Intn(threads)
		switch u := way[thread]; {
		case u == nil && ops > 0:
			ops--
			way[thread] = &under{op: words[r.Intn(len(words))]}
			h = append(h, invoked(thread, way[thread].op))
		case u == nil:
		case !u.did:
			u.did = true
			s, u.ret = done(thing, s, u.op)
		default:
			if r.Intn(12) == 0 {
				u.ret.Val++
			}
			h, way[thread] = append(h, returned(thread, u.op, u.ret)), nil
		}
	}
	return h
}

// eachSmall calls look with every history in form of at most most events, of two threads and the thing's alphabet, with the answers that it could give.
func eachSmall(thing, most int, look func(h []api.Event)) {
	rets := []api.Ret{{}, {Ok: true}, {Ok: true, Val: 1}, {Ok: true, Val: 2}}
	var h []api.Event
	var grow func()
	grow = func() {
		look(h)
		if len(h) == most {
			return
		}
		for thread := range 2 {
			open := -1
			for at, e := range h {
				if e.Thread == thread {
					open = at
				}
			}
			if open < 0 || h[open].Return {
				for _, op := range alphabet(thing)[:3] {
					h = append(h, invoked(thread, op))
					grow()
					h = h[:len(h)-1]
				}
				continue
			}
			for _, ret := range rets {
				h = append(h, returned(thread, h[open].Op, ret))
				grow()
				h = h[:len(h)-1]
			}
		}
	}
	grow()
}
