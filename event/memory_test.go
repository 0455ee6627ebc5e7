package event_test

import (
	"slices"
	"testing"

	"larch/api"
	"larch/event"
)

// roomy: a history with spare room behind it and behind its lists of pairs; two returns share one list.
func roomy() []api.Event {
	shared := make([]api.Pair, 2, 5)
	for i := range shared[:5] {
		shared[:5][i] = api.Pair{Key: 10 + i, Val: 20 + i}
	}
	h := []api.Event{
		invoked(1, put5), invoked(0, get5), returned(1, put5, api.Ret{Ok: true, Pairs: shared}),
		invoked(1, get5), returned(0, get5, api.Ret{Val: 4, Pairs: shared[:1]}), invoked(0, put5),
		{Thread: 2, Op: get5, Ret: api.Ret{Pairs: shared[:0]}}, returned(2, get5, api.Ret{Pairs: shared[:0]}),
	}
	room := make([]api.Event, len(h)+4)
	for at := range room {
		room[at] = api.Event{Thread: 40 + at, Return: at%2 == 0, Op: put5, Ret: api.Ret{Pairs: shared[2:3]}}
	}
	copy(room, h)
	return room[:len(h)]
}

// roomyCalls: the same as calls, with their spare room.
func roomyCalls() []event.Call {
	room := callsOf(roomy())
	n := len(room)
	room = append(room, event.Call{Thread: 9, From: 3}, event.Call{To: 5})
	return room[:n]
}

// whole: all that a history's memory holds, spare room included, as a copy.
func whole(h []api.Event) []api.Event {
	all := slices.Clone(h[:cap(h)])
	for at := range all {
		pairs := all[at].Ret.Pairs
		all[at].Ret.Pairs = slices.Clone(pairs[:cap(pairs)])
	}
	return all
}

func wholeCalls(calls []event.Call) []event.Call {
	all := slices.Clone(calls[:cap(calls)])
	for i := range all {
		pairs := all[i].Ret.Pairs
		all[i].Ret.Pairs = slices.Clone(pairs[:cap(pairs)])
	}
	return all
}

// scribble writes all over what was answered, spare room included.
func scribble(h []api.Event) {
	for at := range h[:cap(h)] {
		e := &h[:cap(h)][at]
		pairs := e.Ret.Pairs[:cap(e.Ret.Pairs)]
		for i := range pairs {
			pairs[i] = api.Pair{Key: -77, Val: -78}
		}
		*e = api.Event{Thread: -79}
	}
}

func TestNothingHandedInIsChanged(t *testing.T) { // P5.6
	h, other, calls := roomy(), roomy(), roomyCalls()
	room := []int{0, 2, 4, 1, 3, 9, 9}
	order := room[:5]
	for name, call := range map[string]func(){
		"Check":   func() { event.Check(h) },
		"Calls":   func() { event.Calls(h) },
		"Events":  func() { event.Events(calls) },
		"Ahead":   func() { event.Ahead(h, 0, 1) },
		"Pending": func() { event.Pending(h) },
		"Width":   func() { event.Width(h) },
		"Row":     func() { event.Row(h) },
		"Of":      func() { event.Of(h, 0) },
		"Cut":     func() { event.Cut(h, 2) },
		"Done":    func() { event.Done(h) },
		"Fits":    func() { event.Fits(h, order) },
		"Orders":  func() { event.Orders(h) },
		"Same":    func() { event.Same(h, other) },
		"refused": func() { event.Cut(h[1:], 2); event.Done(h[2:]); event.Same(h[2:], h[1:]); event.Events(calls[1:]) },
	} {
		before, otherBefore, callsBefore := whole(h), whole(other), wholeCalls(calls)
		call()
		if !sameEvents(whole(h), before) || !sameEvents(whole(other), otherBefore) || !sameCalls(wholeCalls(calls), callsBefore) || !slices.Equal(room, []int{0, 2, 4, 1, 3, 9, 9}) {
			t.Errorf("%s has changed what it was handed", name)
		}
	}
}

func TestHistoriesAreNewMemory(t *testing.T) { // P5.6
	h, calls := roomy(), roomyCalls()
	for name, call := range map[string]func() ([]api.Event, api.Errno){
		"Events": func() ([]api.Event, api.Errno) { return event.Events(calls) },
		"Of 0":   func() ([]api.Event, api.Errno) { return event.Of(h, 0) },
		"Of 1":   func() ([]api.Event, api.Errno) { return event.Of(h, 1) },
		"Of 2":   func() ([]api.Event, api.Errno) { return event.Of(h, 2) },
		"Cut":    func() ([]api.Event, api.Errno) { return event.Cut(h, 3) },
		"Cut 0":  func() ([]api.Event, api.Errno) { return event.Cut(h, 0) },
		"no cut": func() ([]api.Event, api.Errno) { return event.Cut(h, 99) },
		"Done":   func() ([]api.Event, api.Errno) { return event.Done(h) },
	} {
		before, callsBefore := whole(h), wholeCalls(calls)
		got, e := call()
		wantOK(t, name, e)
		want := whole(got[:len(got):len(got)])
		scribble(got)
		if !sameEvents(whole(h), before) || !sameCalls(wholeCalls(calls), callsBefore) {
			t.Errorf("%s shares memory with what it was handed", name)
		}
		again, _ := call()
		if !sameEvents(whole(again[:len(again):len(again)]), want) {
			t.Errorf("%s at another call = %v, want %v", name, again, want)
		}
	}
}

func TestCallsAreNewMemory(t *testing.T) { // P5.6
	h := roomy()
	before := whole(h)
	calls, e := event.Calls(h)
	wantOK(t, "Calls", e)
	for i := range calls[:cap(calls)] {
		pairs := calls[:cap(calls)][i].Ret.Pairs
		for j := range pairs[:cap(pairs)] {
			pairs[:cap(pairs)][j] = api.Pair{Key: -77}
		}
	}
	clear(calls[:cap(calls)])
	if !sameEvents(whole(h), before) {
		t.Error("Calls shares memory with the history")
	}
	if again, _ := event.Calls(h); !sameCalls(again, callsOf(roomy())) {
		t.Errorf("Calls at another call = %v", again)
	}
	pending, _ := event.Pending(h)
	clear(pending[:cap(pending)])
	if again, _ := event.Pending(h); !slices.Equal(again, []int{2, 3}) {
		t.Errorf("Pending at another call = %v", again)
	}
}

// TestListsOfOneAnswerShareNothing: the history's two returns share a list of pairs.
func TestListsOfOneAnswerShareNothing(t *testing.T) { // P5.6
	h := roomy()
	cut, _ := event.Cut(h, 5)
	done, _ := event.Done(h)
	events, _ := event.Events(roomyCalls())
	for name, got := range map[string][]api.Event{"Cut": cut, "Done": done, "Events": events} {
		var lists [][]api.Pair
		for _, e := range got {
			lists = append(lists, e.Ret.Pairs)
		}
		wantApart(t, name, lists)
	}
	calls, _ := event.Calls(h)
	var lists [][]api.Pair
	for _, c := range calls {
		lists = append(lists, c.Ret.Pairs)
	}
	wantApart(t, "Calls", lists)
}

// wantApart fills each list with its own number, spare room included, and reads all of them again.
func wantApart(t *testing.T, what string, lists [][]api.Pair) {
	t.Helper()
	filled := 0
	for i, list := range lists {
		for j := range list[:cap(list)] {
			list[:cap(list)][j] = api.Pair{Key: i}
			filled++
		}
	}
	for i, list := range lists {
		for _, p := range list[:cap(list)] {
			if p.Key != i {
				t.Errorf("%s: list %d shares memory with list %d", what, i, p.Key)
			}
		}
	}
	if filled < 3 {
		t.Errorf("%s has only %d pairs", what, filled)
	}
}
