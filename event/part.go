package event

import (
	"cmp"
	"slices"

	"larch/api"
)

// Of: the events of one thread.
func Of(h []api.Event, thread int) ([]api.Event, api.Errno) {
	if e := Check(h); e != api.OK {
		return nil, e
	}
	var events []api.Event
	for _, e := range h {
		if e.Thread == thread {
			e.Ret = copyOf(e.Ret)
			events = append(events, e)
		}
	}
	return events, api.OK
}

// Cut: the history of the first operations.
func Cut(h []api.Event, n int) ([]api.Event, api.Errno) {
	spans, e := spansOf(h)
	if e != api.OK {
		return nil, e
	}
	if n < 0 {
		return nil, api.ErrArg
	}
	return eventsAt(h, spans[:min(n, len(spans))]), api.OK
}

// Done: the history without the pending operations.
func Done(h []api.Event) ([]api.Event, api.Errno) {
	spans, e := spansOf(h)
	if e != api.OK {
		return nil, e
	}
	isPending := func(s span) bool { return !s.hasReturned() }
	return eventsAt(h, slices.DeleteFunc(spans, isPending)), api.OK
}

// eventsAt: the events of these operations, in the history's order.
func eventsAt(h []api.Event, spans []span) []api.Event {
	var places []int
	for _, s := range spans {
		places = append(places, s.from)
		if s.hasReturned() {
			places = append(places, s.to)
		}
	}
	slices.Sort(places)
	events := make([]api.Event, len(places))
	for i, at := range places {
		events[i] = h[at]
		events[i].Ret = copyOf(h[at].Ret)
	}
	return events
}

// Same: are the two histories alike for every thread?
func Same(a, b []api.Event) (bool, api.Errno) {
	for _, h := range [][]api.Event{a, b} {
		if e := Check(h); e != api.OK {
			return false, e
		}
	}
	return slices.EqualFunc(byThread(a), byThread(b), isSameEvent), api.OK
}

// byThread: one thread behind the other; the sort is stable, so that each keeps its order.
func byThread(h []api.Event) []api.Event {
	sorted := slices.Clone(h)
	slices.SortStableFunc(sorted, func(x, y api.Event) int { return cmp.Compare(x.Thread, y.Thread) })
	return sorted
}

func isSameEvent(x, y api.Event) bool {
	return x.Thread == y.Thread && x.Return == y.Return && x.Op == y.Op && isSameRet(x.Ret, y.Ret)
}

func isSameRet(x, y api.Ret) bool {
	return x.Ok == y.Ok && x.Key == y.Key && x.Val == y.Val && slices.Equal(x.Pairs, y.Pairs)
}
