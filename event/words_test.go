package event_test

import (
	"math/rand"
	"slices"
	"testing"

	"larch/api"
	"larch/event"
)

// What the chapter says, word by word and slowly: the tests hold the package against it.

var (
	get5 = api.Op{Kind: api.Get, Key: 5}
	put5 = api.Op{Kind: api.Put, Key: 5, Val: 7}
)

func invoked(thread int, op api.Op) api.Event { return api.Event{Thread: thread, Op: op} }

func returned(thread int, op api.Op, ret api.Ret) api.Event {
	return api.Event{Thread: thread, Return: true, Op: op, Ret: ret}
}

// The first and the second example of the chapter.
func exampleOne() []api.Event {
	return []api.Event{invoked(0, get5), invoked(1, put5), returned(1, put5, api.Ret{}), returned(0, get5, api.Ret{})}
}

func exampleTwo() []api.Event {
	return []api.Event{invoked(0, get5), returned(0, get5, api.Ret{}), invoked(1, put5)}
}

func sameRet(a, b api.Ret) bool {
	return a.Ok == b.Ok && a.Key == b.Key && a.Val == b.Val && slices.Equal(a.Pairs, b.Pairs)
}

func sameEvent(a, b api.Event) bool {
	return a.Thread == b.Thread && a.Return == b.Return && a.Op == b.Op && sameRet(a.Ret, b.Ret)
}

func sameEvents(a, b []api.Event) bool { return slices.EqualFunc(a, b, sameEvent) }

func sameCalls(a, b []event.Call) bool {
	return slices.EqualFunc(a, b, func(x, y event.Call) bool {
		return x.Thread == y.Thread && x.Op == y.Op && sameRet(x.Ret, y.Ret) && x.From == y.From && x.To == y.To
	})
}

// keep: the events for which ask says yes, in their order.
func keep(h []api.Event, ask func(at int) bool) []api.Event {
	var kept []api.Event
	for at, e := range h {
		if ask(at) {
			kept = append(kept, e)
		}
	}
	return kept
}

// inForm looks at each thread's events by themselves.
func inForm(h []api.Event) bool {
	for thread := range 64 {
		for i, e := range keep(h, func(at int) bool { return h[at].Thread == thread }) {
			if e.Return != (i%2 == 1) {
				return false
			}
		}
	}
	for at, e := range h {
		if e.Thread < 0 || e.Thread > 63 {
			return false
		}
		if !e.Return && (e.Op.Kind < 1 || e.Op.Kind > 9 || !sameRet(e.Ret, api.Ret{})) {
			return false
		}
		if !e.Return {
			if to := next(h, at); to != -1 && h[to].Op != e.Op {
				return false
			}
		}
	}
	return true
}

// next: the place of the thread's next event, or -1.
func next(h []api.Event, at int) int {
	for to := at + 1; to < len(h); to++ {
		if h[to].Thread == h[at].Thread {
			return to
		}
	}
	return -1
}

// callsOf: the operations of a history in form.
func callsOf(h []api.Event) []event.Call {
	var calls []event.Call
	for at, e := range h {
		if e.Return {
			continue
		}
		c := event.Call{Thread: e.Thread, Op: e.Op, From: at, To: next(h, at)}
		if c.To != -1 {
			c.Ret = h[c.To].Ret
		}
		calls = append(calls, c)
	}
	return calls
}

func isAhead(calls []event.Call, i, j int) bool {
	return calls[i].To != -1 && calls[i].To < calls[j].From
}

func widthOf(h []api.Event) int {
	width, calls := 0, callsOf(h)
	for at := range h {
		now := 0
		for _, c := range calls {
			if c.From <= at && (c.To == -1 || c.To > at) {
				now++
			}
		}
		width = max(width, now)
	}
	return width
}

func fits(calls []event.Call, order []int) bool {
	for at, i := range order {
		if i < 0 || i >= len(calls) || slices.Contains(order[:at], i) {
			return false
		}
		for _, before := range order[:at] {
			if isAhead(calls, i, before) {
				return false
			}
		}
	}
	for i, c := range calls {
		if c.To != -1 && !slices.Contains(order, i) {
			return false
		}
	}
	return true
}

// eachOrder calls look with every list of at most most numbers from 0 to n - 1, each at most once.
func eachOrder(n, most int, look func(order []int)) {
	var order []int
	var grow func()
	grow = func() {
		look(order)
		if len(order) == most {
			return
		}
		for i := range n {
			if !slices.Contains(order, i) {
				order = append(order, i)
				grow()
				order = order[:len(order)-1]
			}
		}
	}
	grow()
}

// eachSmall calls look with every list of at most most events of two threads and two operations, in form or not.
func eachSmall(most int, look func(h []api.Event)) {
	var alphabet []api.Event
	for thread := range 2 {
		for _, op := range []api.Op{get5, put5} {
			alphabet = append(alphabet, invoked(thread, op), returned(thread, op, api.Ret{Ok: true, Val: thread + 3}))
		}
	}
	var h []api.Event
	var grow func()
	grow = func() {
		look(h)
		if len(h) == most {
			return
		}
		for _, e := range alphabet {
			h = append(h, e)
			grow()
			h = h[:len(h)-1]
		}
	}
	grow()
}

// someHistory: a history in form, with answers of all sorts.
func someHistory(r *rand.Rand, threads, events int) []api.Event {
	var h []api.Event
	open := make([]*api.Op, threads)
	for range events {
		thread := r.Intn(threads)
		if op := open[thread]; op != nil {
			h, open[thread] = append(h, returned(thread, *op, someRet(r))), nil
			continue
		}
		op := api.Op{Kind: 1 + r.Intn(9), Key: r.Intn(5), Val: r.Intn(5), Hi: r.Intn(5)}
		h, open[thread] = append(h, invoked(thread, op)), &op
	}
	return h
}

func someRet(r *rand.Rand) api.Ret {
	ret := api.Ret{Ok: r.Intn(2) == 0, Key: r.Intn(3), Val: r.Intn(3)}
	if r.Intn(2) == 0 {
		ret.Pairs = []api.Pair{}
	}
	for range r.Intn(3) {
		ret.Pairs = append(ret.Pairs, api.Pair{Key: r.Intn(9), Val: r.Intn(9)})
	}
	return ret
}

// eachHistory calls look with all small histories in form and with greater ones.
func eachHistory(look func(h []api.Event)) {
	eachSmall(5, func(h []api.Event) {
		if inForm(h) {
			look(h)
		}
	})
	r := rand.New(rand.NewSource(5))
	for range 500 {
		look(someHistory(r, 1+r.Intn(5), r.Intn(13)))
	}
	for range 30 {
		look(someHistory(r, 64, r.Intn(150)))
	}
}

// rowOf: a history of so many events, one operation behind the other, by threads in turn.
func rowOf(events int) []api.Event {
	h := make([]api.Event, events)
	for at := range h {
		h[at] = api.Event{Thread: at / 2 % 64, Return: at%2 == 1, Op: api.Op{Kind: 1 + at/2%9, Key: at / 2}}
	}
	return h
}

func wantOK(t *testing.T, what string, e api.Errno) {
	t.Helper()
	if e != api.OK {
		t.Errorf("%s: error %d", what, e)
	}
}
