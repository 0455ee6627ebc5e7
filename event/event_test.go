package event_test

import (
	"math"
	"math/rand"
	"slices"
	"testing"

	"larch/api"
	"larch/event"
)

func TestLimits(t *testing.T) { // P5.1, P5.4
	if event.MaxEvents != 100000 || event.MaxOrders != 16 {
		t.Errorf("MaxEvents %d, MaxOrders %d", event.MaxEvents, event.MaxOrders)
	}
}

func TestCheckByExamples(t *testing.T) { // P5.1
	pair := []api.Pair{{}}
	for _, c := range []struct {
		name string
		h    []api.Event
		want api.Errno
	}{
		{"nil", nil, api.OK},
		{"an empty list", []api.Event{}, api.OK},
		{"two that overlap", exampleOne(), api.OK},
		{"one pending", exampleTwo(), api.OK},
		{"both pending", exampleOne()[:2], api.OK},
		{"a return alone", []api.Event{returned(0, get5, api.Ret{})}, api.ErrForm},
		{"two invocations", []api.Event{invoked(0, get5), invoked(0, get5)}, api.ErrForm},
		{"two returns", []api.Event{invoked(0, get5), returned(0, get5, api.Ret{}), returned(0, get5, api.Ret{})}, api.ErrForm},
		{"another's return", []api.Event{invoked(0, get5), returned(1, get5, api.Ret{})}, api.ErrForm},
		{"the return of another operation", []api.Event{invoked(0, get5), returned(0, put5, api.Ret{})}, api.ErrForm},
		{"the return of an earlier operation", []api.Event{invoked(0, get5), returned(0, get5, api.Ret{}), invoked(0, put5), returned(0, get5, api.Ret{})}, api.ErrForm},
		{"an invocation that answers Ok", []api.Event{{Op: get5, Ret: api.Ret{Ok: true}}}, api.ErrForm},
		{"an invocation that answers a key", []api.Event{{Op: get5, Ret: api.Ret{Key: -1}}}, api.ErrForm},
		{"an invocation that answers a value", []api.Event{{Op: get5, Ret: api.Ret{Val: 1}}}, api.ErrForm},
		{"an invocation that answers a pair", []api.Event{{Op: get5, Ret: api.Ret{Pairs: pair}}}, api.ErrForm},
		{"an invocation with an empty list of pairs", []api.Event{{Op: get5, Ret: api.Ret{Pairs: pair[:0]}}}, api.OK},
		{"a return that answers anything", []api.Event{invoked(0, get5), returned(0, get5, api.Ret{Ok: true, Key: math.MinInt, Val: math.MaxInt, Pairs: []api.Pair{{Key: 5}, {Key: 5}, {Key: 1}}})}, api.OK},
		{"a fault behind what is in form", append(exampleOne(), invoked(64, get5)), api.ErrForm},
	} {
		if e := event.Check(c.h); e != c.want {
			t.Errorf("%s: Check = %d, want %d", c.name, e, c.want)
		}
	}
}

func TestCheckOfThreadsAndKinds(t *testing.T) { // P5.1
	for _, n := range []int{math.MinInt, -64, -1, 0, 1, 2, 9, 10, 62, 63, 64, 65, math.MaxInt} {
		thread, kind := api.ErrForm, api.ErrForm
		if n >= 0 && n <= 63 {
			thread = api.OK
		}
		if n >= 1 && n <= 9 {
			kind = api.OK
		}
		if e := event.Check([]api.Event{invoked(n, get5)}); e != thread {
			t.Errorf("Check of thread %d = %d, want %d", n, e, thread)
		}
		if e := event.Check([]api.Event{invoked(0, api.Op{Kind: n})}); e != kind {
			t.Errorf("Check of kind %d = %d, want %d", n, e, kind)
		}
		if e := event.Check([]api.Event{invoked(0, api.Op{Kind: n}), returned(0, api.Op{Kind: n}, api.Ret{})}); e != kind {
			t.Errorf("Check of kind %d, returned = %d, want %d", n, e, kind)
		}
		if e := event.Check([]api.Event{returned(n, get5, api.Ret{})}); e != api.ErrForm {
			t.Errorf("Check of a return of thread %d = %d", n, e)
		}
	}
	for kind := 1; kind <= 9; kind++ {
		if e := event.Check([]api.Event{invoked(0, api.Op{Kind: kind, Key: math.MinInt, Val: math.MaxInt, Hi: -1})}); e != api.OK {
			t.Errorf("Check of kind %d = %d", kind, e)
		}
	}
}

func TestCheckAsksAllFourNumbers(t *testing.T) { // P5.1
	op := api.Op{Kind: 1, Key: 2, Val: 3, Hi: 4}
	for _, other := range []api.Op{{Kind: 2, Key: 2, Val: 3, Hi: 4}, {Kind: 1, Key: 3, Val: 3, Hi: 4}, {Kind: 1, Key: 2, Val: 4, Hi: 4}, {Kind: 1, Key: 2, Val: 3, Hi: 5}} {
		if e := event.Check([]api.Event{invoked(3, op), returned(3, other, api.Ret{})}); e != api.ErrForm {
			t.Errorf("Check of %v returned as %v = %d", op, other, e)
		}
	}
	if e := event.Check([]api.Event{invoked(3, op), returned(3, op, api.Ret{})}); e != api.OK {
		t.Errorf("Check of %v = %d", op, e)
	}
}

func TestCheckOfAllSmallLists(t *testing.T) { // P5.1
	good := 0
	eachSmall(6, func(h []api.Event) {
		want := api.ErrForm
		if inForm(h) {
			want = api.OK
			good++
		}
		if e := event.Check(h); e != want {
			t.Errorf("Check(%v) = %d, want %d", h, e, want)
		}
	})
	if good < 1000 {
		t.Errorf("only %d lists are in form", good)
	}
}

func TestCheckOfSpoiltHistories(t *testing.T) { // P5.1
	r := rand.New(rand.NewSource(1))
	for range 3000 {
		h := someHistory(r, 1+r.Intn(6), 1+r.Intn(20))
		switch at := r.Intn(len(h)); r.Intn(5) {
		case 0:
			h[at].Thread = r.Intn(70) - 3
		case 1:
			h[at].Return = !h[at].Return
		case 2:
			h[at].Op.Kind = r.Intn(12)
		case 3:
			h[at].Ret = someRet(r)
		case 4:
			h = slices.Delete(h, at, at+1)
		}
		want := api.ErrForm
		if inForm(h) {
			want = api.OK
		}
		if e := event.Check(h); e != want {
			t.Errorf("Check(%v) = %d, want %d", h, e, want)
		}
	}
}

// refusal is the error that a call tells, and whether all else that it answers is zero.
type refusal struct {
	call string
	e    api.Errno
	zero bool
}

// refusals: what all calls tell of a list that is no history.
func refusals(h []api.Event) []refusal {
	var all []refusal
	note := func(call string, e api.Errno, zero bool) { all = append(all, refusal{call, e, zero}) }
	note("Check", event.Check(h), true)
	calls, e := event.Calls(h)
	note("Calls", e, len(calls) == 0)
	ahead, e := event.Ahead(h, 0, 1)
	note("Ahead", e, !ahead)
	ahead, e = event.Ahead(h, -1, 1<<40)
	note("Ahead of none", e, !ahead)
	pending, e := event.Pending(h)
	note("Pending", e, len(pending) == 0)
	width, e := event.Width(h)
	note("Width", e, width == 0)
	row, e := event.Row(h)
	note("Row", e, !row)
	of, e := event.Of(h, 0)
	note("Of", e, len(of) == 0)
	cut, e := event.Cut(h, 1)
	note("Cut", e, len(cut) == 0)
	cut, e = event.Cut(h, -1)
	note("Cut below 0", e, len(cut) == 0)
	done, e := event.Done(h)
	note("Done", e, len(done) == 0)
	fit, e := event.Fits(h, nil)
	note("Fits", e, !fit)
	orders, e := event.Orders(h)
	note("Orders", e, orders == 0)
	same, e := event.Same(h, exampleOne())
	note("Same, first", e, !same)
	same, e = event.Same(exampleOne(), h)
	note("Same, second", e, !same)
	return all
}

func TestErrorsOfTheHistoryComeFirst(t *testing.T) { // P5.1 to P5.5
	crowd := append(rowOf(200), returned(9, get5, api.Ret{})) // too many operations for Orders besides
	for _, c := range []struct {
		name string
		h    []api.Event
		want api.Errno
	}{
		{"a return alone", []api.Event{returned(0, get5, api.Ret{})}, api.ErrForm},
		{"a wrong end", crowd, api.ErrForm},
		{"one above the limit", rowOf(100001), api.ErrBig},
		{"one above the limit, not in form", make([]api.Event, 100001), api.ErrBig},
	} {
		for _, r := range refusals(c.h) {
			if r.e != c.want || !r.zero {
				t.Errorf("%s: %s tells error %d (all else zero: %v), want %d", c.name, r.call, r.e, r.zero, c.want)
			}
		}
	}
}

func TestCallsByExamples(t *testing.T) { // P5.1
	calls, e := event.Calls(exampleOne())
	wantOK(t, "Calls", e)
	if want := []event.Call{{Thread: 0, Op: get5, From: 0, To: 3}, {Thread: 1, Op: put5, From: 1, To: 2}}; !sameCalls(calls, want) {
		t.Errorf("Calls = %v, want %v", calls, want)
	}
	for _, h := range [][]api.Event{nil, {}} {
		if calls, e := event.Calls(h); e != api.OK || len(calls) != 0 {
			t.Errorf("Calls of no events = %v, %d", calls, e)
		}
	}
	ret := api.Ret{Ok: true, Key: 1, Val: 2, Pairs: []api.Pair{{Key: 3, Val: 4}}}
	calls, e = event.Calls([]api.Event{invoked(2, put5), returned(2, put5, ret), {Thread: 2, Op: get5, Ret: api.Ret{Pairs: []api.Pair{}}}})
	wantOK(t, "Calls", e)
	if want := []event.Call{{Thread: 2, Op: put5, Ret: ret, From: 0, To: 1}, {Thread: 2, Op: get5, From: 2, To: -1}}; !sameCalls(calls, want) {
		t.Errorf("Calls = %v, want %v", calls, want)
	}
}

func TestCallsAndEvents(t *testing.T) { // P5.1
	eachHistory(func(h []api.Event) {
		calls, e := event.Calls(h)
		if e != api.OK || !sameCalls(calls, callsOf(h)) {
			t.Errorf("Calls(%v) = %v, %d", h, calls, e)
		}
		if again, e := event.Events(calls); e != api.OK || !sameEvents(again, h) {
			t.Errorf("Events(Calls(%v)) = %v, %d", h, again, e)
		}
	})
}

func TestEventsByExamples(t *testing.T) { // P5.1
	got, e := event.Events([]event.Call{{Thread: 0, Op: get5, From: 0, To: 1}, {Thread: 1, Op: put5, From: 2, To: -1}})
	if e != api.OK || !sameEvents(got, exampleTwo()) {
		t.Errorf("Events = %v, %d", got, e)
	}
	for _, calls := range [][]event.Call{nil, {}} {
		if h, e := event.Events(calls); e != api.OK || len(h) != 0 {
			t.Errorf("Events of no calls = %v, %d", h, e)
		}
	}
	some := api.Ret{Pairs: []api.Pair{{}}}
	for name, calls := range map[string][]event.Call{
		"it begins at 1":                   {{Op: get5, From: 1, To: 2}},
		"both at one place":                {{Op: get5, From: 0, To: 0}},
		"two at one place":                 {{Op: get5, From: 0, To: 2}, {Thread: 1, Op: put5, From: 1, To: 1}},
		"two invocations at one place":     {{Op: get5, From: 0, To: 1}, {Thread: 1, Op: put5, From: 0, To: 3}},
		"two returns at one place":         {{Op: get5, From: 0, To: 2}, {Thread: 1, Op: put5, From: 1, To: 2}},
		"a hole":                           {{Op: get5, From: 0, To: 2}},
		"a hole ahead of a pending one":    {{Op: get5, From: 0, To: 1}, {Thread: 1, Op: put5, From: 3, To: -1}},
		"the return first":                 {{Op: get5, From: 1, To: 0}},
		"the return first, of the later":   {{Op: get5, From: 0, To: 3}, {Thread: 1, Op: put5, From: 2, To: 1}},
		"a return at -2":                   {{Op: get5, From: 0, To: -2}},
		"a return at the least place":      {{Op: get5, From: 0, To: math.MinInt}},
		"a return at the greatest place":   {{Op: get5, From: 0, To: math.MaxInt}},
		"an invocation at -1":              {{Op: get5, From: -1, To: 0}},
		"an invocation and return at -1":   {{Op: get5, From: -1, To: -1}},
		"an invocation at the least place": {{Op: get5, From: math.MinInt, To: -1}},
		"an invocation at the greatest":    {{Op: get5, From: math.MaxInt, To: -1}},
		"not by rising From":               {{Thread: 1, Op: put5, From: 2, To: -1}, {Op: get5, From: 0, To: 1}},
		"pending ones not by rising From":  {{Thread: 1, Op: put5, From: 1, To: -1}, {Op: get5, From: 0, To: -1}},
		"one call twice":                   {{Op: get5, From: 0, To: -1}, {Op: get5, From: 0, To: -1}},
		"thread 64":                        {{Thread: 64, Op: get5, From: 0, To: 1}},
		"thread -1":                        {{Thread: -1, Op: get5, From: 0, To: 1}},
		"kind 0":                           {{From: 0, To: 1}},
		"kind 10":                          {{Op: api.Op{Kind: 10}, From: 0, To: -1}},
		"a pending one that answers Ok":    {{Op: get5, Ret: api.Ret{Ok: true}, From: 0, To: -1}},
		"a pending one that has a key":     {{Op: get5, Ret: api.Ret{Key: 1}, From: 0, To: -1}},
		"a pending one that has a value":   {{Op: get5, Ret: api.Ret{Val: 1}, From: 0, To: -1}},
		"a pending one that has a pair":    {{Op: get5, Ret: some, From: 0, To: -1}},
		"one thread's operations overlap":  {{Op: get5, From: 0, To: 2}, {Op: put5, From: 1, To: 3}},
		"one thread's within another":      {{Op: get5, From: 0, To: 3}, {Op: get5, From: 1, To: 2}},
		"a thread goes on behind pending":  {{Op: get5, From: 0, To: -1}, {Op: get5, From: 1, To: 2}},
	} {
		if h, e := event.Events(calls); e != api.ErrForm || len(h) != 0 {
			t.Errorf("%s: Events = %v, %d", name, h, e)
		}
	}
	if h, e := event.Events([]event.Call{{Op: get5, Ret: api.Ret{Pairs: []api.Pair{}}, From: 0, To: -1}}); e != api.OK || !sameEvents(h, []api.Event{invoked(0, get5)}) {
		t.Errorf("a pending one with an empty list of pairs: Events = %v, %d", h, e)
	}
}

func TestEventsOfSpoiltCalls(t *testing.T) { // P5.1
	r := rand.New(rand.NewSource(2))
	good := 0
	for range 5000 {
		calls := callsOf(someHistory(r, 1+r.Intn(3), 1+r.Intn(7)))
		for range 1 + r.Intn(2) {
			c := &calls[r.Intn(len(calls))]
			switch r.Intn(4) {
			case 0:
				c.From = r.Intn(8) - 1
			case 1:
				c.To = r.Intn(8) - 1
			case 2:
				c.Thread = r.Intn(4)
			case 3:
				c.Ret = someRet(r)
			}
		}
		h, e := event.Events(calls)
		if want, ok := historyOf(calls); ok {
			good++
			if e != api.OK || !sameEvents(h, want) {
				t.Errorf("Events(%v) = %v, %d, want %v", calls, h, e, want)
			}
		} else if e != api.ErrForm || len(h) != 0 {
			t.Errorf("Events(%v) = %v, %d, want %d", calls, h, e, api.ErrForm)
		}
	}
	if good < 500 {
		t.Errorf("only %d lists of calls had a history", good)
	}
}

// historyOf looks, place by place, for the call that has its event there, and asks whether the history's operations are the calls.
func historyOf(calls []event.Call) ([]api.Event, bool) {
	var h []api.Event
	for at := range 2 * len(calls) {
		for _, c := range calls {
			if c.From == at {
				h = append(h, invoked(c.Thread, c.Op))
			}
			if c.To == at {
				h = append(h, returned(c.Thread, c.Op, c.Ret))
			}
		}
	}
	return h, inForm(h) && sameCalls(callsOf(h), calls)
}

func TestAtTheLimitOfEvents(t *testing.T) { // P5.1
	for _, n := range []int{99999, 100000} {
		h := rowOf(n)
		calls, e := event.Calls(h)
		if event.Check(h) != api.OK || e != api.OK || len(calls) != (n+1)/2 || !sameCalls(calls[:3], []event.Call{{Op: h[0].Op, To: 1}, {Thread: 1, Op: h[2].Op, From: 2, To: 3}, {Thread: 2, Op: h[4].Op, From: 4, To: 5}}) {
			t.Errorf("%d events: Check %d; Calls: %d, error %d", n, event.Check(h), len(calls), e)
		}
		if again, e := event.Events(calls); e != api.OK || !sameEvents(again, h) {
			t.Errorf("%d events: Events: %d events, error %d", n, len(again), e)
		}
	}
}

func TestEventsAtTheLimitOfCalls(t *testing.T) { // P5.1
	row := func(calls int) []event.Call {
		list := make([]event.Call, calls)
		for i := range list {
			list[i] = event.Call{Op: get5, From: 2 * i, To: 2*i + 1}
		}
		return list
	}
	two := append(row(49999), event.Call{Op: get5, From: 99998, To: -1}, event.Call{Thread: 1, Op: get5, From: 99999, To: -1})
	one := append(row(50000), event.Call{Op: get5, From: 100000, To: -1})
	for _, c := range []struct {
		name  string
		calls []event.Call
		want  api.Errno
		len   int
	}{
		{"50000 calls that returned", row(50000), api.OK, 100000},
		{"50001 calls, two pending: 100000 events", two, api.OK, 100000},
		{"50001 calls, one pending: 100001 events", one, api.ErrForm, 0},
		{"50001 calls that returned", row(50001), api.ErrForm, 0},
		{"100000 calls", row(100000), api.ErrForm, 0},
		{"100001 calls", row(100001), api.ErrBig, 0},
		{"100001 calls that are none", make([]event.Call, 100001), api.ErrBig, 0},
	} {
		if h, e := event.Events(c.calls); e != c.want || len(h) != c.len {
			t.Errorf("%s: %d events, error %d, want %d, %d", c.name, len(h), e, c.len, c.want)
		}
	}
}
