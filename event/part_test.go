package event_test

import (
	"math"
	"math/rand"
	"slices"
	"testing"

	"larch/api"
	"larch/event"
)

func TestPartsByExamples(t *testing.T) { // P5.3
	one := exampleOne()
	for _, c := range []struct {
		name string
		h    []api.Event
		part func(h []api.Event) ([]api.Event, api.Errno)
		want []api.Event
	}{
		{"Of thread 1", one, func(h []api.Event) ([]api.Event, api.Errno) { return event.Of(h, 1) }, one[1:3]},
		{"Of thread 9", one, func(h []api.Event) ([]api.Event, api.Errno) { return event.Of(h, 9) }, nil},
		{"Cut at 1", one, func(h []api.Event) ([]api.Event, api.Errno) { return event.Cut(h, 1) }, []api.Event{one[0], one[3]}},
		{"Cut at 0", one, func(h []api.Event) ([]api.Event, api.Errno) { return event.Cut(h, 0) }, nil},
		{"Cut at 2", one, func(h []api.Event) ([]api.Event, api.Errno) { return event.Cut(h, 2) }, one},
		{"Cut behind the end", one, func(h []api.Event) ([]api.Event, api.Errno) { return event.Cut(h, math.MaxInt) }, one},
		{"Cut of no events", nil, func(h []api.Event) ([]api.Event, api.Errno) { return event.Cut(h, 3) }, nil},
		{"Done, one pending", exampleTwo(), event.Done, exampleTwo()[:2]},
		{"Done, all returned", one, event.Done, one},
		{"Done, all pending", one[:2], event.Done, nil},
		{"Done, the first one pending", one[:3], event.Done, one[1:3]},
		{"Done of no events", nil, event.Done, nil},
	} {
		if got, e := c.part(c.h); e != api.OK || !sameEvents(got, c.want) {
			t.Errorf("%s = %v, %d, want %v", c.name, got, e, c.want)
		}
	}
}

func TestOfAnyNumber(t *testing.T) { // P5.3
	for _, thread := range []int{math.MinInt, -1, 2, 63, 64, math.MaxInt} {
		for _, h := range [][]api.Event{exampleOne(), nil} {
			if got, e := event.Of(h, thread); e != api.OK || len(got) != 0 {
				t.Errorf("Of(%d) = %v, %d", thread, got, e)
			}
		}
	}
}

func TestCutRefuses(t *testing.T) { // P5.3
	for _, n := range []int{-1, -2, math.MinInt} {
		for _, h := range [][]api.Event{exampleOne(), nil} {
			if got, e := event.Cut(h, n); e != api.ErrArg || len(got) != 0 {
				t.Errorf("Cut(%d) = %v, %d", n, got, e)
			}
		}
	}
}

func TestPartsByTheWords(t *testing.T) { // P5.3
	eachHistory(func(h []api.Event) {
		calls := callsOf(h)
		look := func(what string, got []api.Event, e api.Errno, ask func(at int) bool) {
			t.Helper()
			if want := keep(h, ask); e != api.OK || !sameEvents(got, want) {
				t.Errorf("%s of %v = %v, %d, want %v", what, h, got, e, want)
			}
			if !inForm(got) || event.Check(got) != api.OK {
				t.Errorf("%s of %v = %v, which isn't in form", what, h, got)
			}
		}
		numberAt := func(at int) int {
			return slices.IndexFunc(calls, func(c event.Call) bool { return c.From == at || c.To == at })
		}
		for thread := range 6 {
			got, e := event.Of(h, thread)
			look("Of", got, e, func(at int) bool { return h[at].Thread == thread })
		}
		for n := range min(len(calls), 9) + 2 {
			got, e := event.Cut(h, n)
			look("Cut", got, e, func(at int) bool { return numberAt(at) < n })
		}
		got, e := event.Done(h)
		look("Done", got, e, func(at int) bool { return calls[numberAt(at)].To != -1 })
	})
}

func TestPartsAtTheLimit(t *testing.T) { // P5.3
	h := rowOf(99999)
	of, e1 := event.Of(h, 63)
	cut, e2 := event.Cut(h, 49999)
	done, e3 := event.Done(h)
	if len(of) != 1562 || !sameEvents(cut, h[:99998]) || !sameEvents(done, h[:99998]) || e1+e2+e3 != 0 {
		t.Errorf("of 99999 events: Of %d, Cut %d, Done %d events", len(of), len(cut), len(done))
	}
}

func TestSameByExamples(t *testing.T) { // P5.5
	g, p := api.Ret{Ok: true, Val: 7}, api.Ret{Pairs: []api.Pair{{Key: 1, Val: 2}}}
	a := []api.Event{invoked(0, get5), invoked(1, put5), returned(0, get5, g), returned(1, put5, p)}
	b := []api.Event{invoked(1, put5), returned(1, put5, p), invoked(0, get5), returned(0, get5, g)}
	if same, e := event.Same(a, b); !same || e != api.OK {
		t.Errorf("Same = %v, %d", same, e)
	}
	empty := slices.Clone(b)
	empty[3].Ret.Pairs = []api.Pair{}
	if same, e := event.Same(a, empty); !same || e != api.OK {
		t.Errorf("Same, nil and an empty list of pairs = %v, %d", same, e)
	}
	for name, c := range map[string][]api.Event{
		"nothing":              nil,
		"without the last one": b[:3],
		"one more":             append(slices.Clone(b), invoked(0, get5)),
		"another value":        append(slices.Clone(b[:3]), returned(0, get5, api.Ret{Ok: true, Val: 8})),
		"another key":          append(slices.Clone(b[:3]), returned(0, get5, api.Ret{Ok: true, Key: 1, Val: 7})),
		"not Ok":               append(slices.Clone(b[:3]), returned(0, get5, api.Ret{Val: 7})),
		"a pair":               append(slices.Clone(b[:3]), returned(0, get5, api.Ret{Ok: true, Val: 7, Pairs: []api.Pair{{}}})),
		"another pair":         {b[0], returned(1, put5, api.Ret{Pairs: []api.Pair{{Key: 1, Val: 3}}}), b[2], b[3]},
		"another thread":       {invoked(2, put5), returned(2, put5, p), b[2], b[3]},
		"threads exchanged":    {invoked(0, put5), returned(0, put5, p), invoked(1, get5), returned(1, get5, g)},
		"another operation":    {invoked(1, get5), returned(1, get5, p), b[2], b[3]},
	} {
		for _, pair := range [][2][]api.Event{{a, c}, {c, a}} {
			if same, e := event.Same(pair[0], pair[1]); same || e != api.OK {
				t.Errorf("%s: Same = %v, %d", name, same, e)
			}
		}
	}
	if same, e := event.Same(nil, []api.Event{}); !same || e != api.OK {
		t.Errorf("Same of no events = %v, %d", same, e)
	}
}

func TestSameAsksTheThreadsOwnOrder(t *testing.T) { // P5.5
	a := []api.Event{invoked(3, get5), returned(3, get5, api.Ret{}), invoked(3, put5), returned(3, put5, api.Ret{})}
	if same, e := event.Same(a, []api.Event{a[2], a[3], a[0], a[1]}); same || e != api.OK {
		t.Errorf("Same, two operations of one thread exchanged = %v, %d", same, e)
	}
}

func TestSameErrors(t *testing.T) { // P5.5
	fine, wrong, big := exampleOne(), []api.Event{returned(0, get5, api.Ret{})}, make([]api.Event, 100001)
	for _, c := range []struct {
		name string
		a, b []api.Event
		want api.Errno
	}{
		{"wrong, fine", wrong, fine, api.ErrForm}, {"fine, wrong", fine, wrong, api.ErrForm},
		{"big, fine", big, fine, api.ErrBig}, {"fine, big", fine, big, api.ErrBig},
		{"big, wrong", big, wrong, api.ErrBig}, {"wrong, big", wrong, big, api.ErrForm},
		{"wrong twice", wrong, wrong, api.ErrForm}, {"big twice", big, big, api.ErrBig},
	} {
		if same, e := event.Same(c.a, c.b); same || e != c.want {
			t.Errorf("%s: Same = %v, %d, want %d", c.name, same, e, c.want)
		}
	}
}

// mix: neighbours of unlike threads change places, many times.
func mix(r *rand.Rand, h []api.Event) []api.Event {
	h = slices.Clone(h)
	for range 10 * len(h) {
		if at := r.Intn(len(h)); at > 0 && h[at-1].Thread != h[at].Thread {
			h[at-1], h[at] = h[at], h[at-1]
		}
	}
	return h
}

func sameByTheWords(a, b []api.Event) bool {
	for thread := range 64 {
		of := func(h []api.Event) []api.Event {
			return keep(h, func(at int) bool { return h[at].Thread == thread })
		}
		if !sameEvents(of(a), of(b)) {
			return false
		}
	}
	return true
}

func TestSameOfMixedHistories(t *testing.T) { // P5.5
	r := rand.New(rand.NewSource(7))
	eachHistory(func(h []api.Event) {
		if same, e := event.Same(h, h); !same || e != api.OK {
			t.Errorf("Same(%v, itself) = %v, %d", h, same, e)
		}
		mixed := mix(r, h)
		if same, e := event.Same(h, mixed); !same || e != api.OK {
			t.Errorf("Same(%v, %v) = %v, %d", h, mixed, same, e)
		}
		if len(h) == 0 {
			return
		}
		mixed[r.Intn(len(h))].Ret = someRet(r)
		if want := sameByTheWords(h, mixed); inForm(mixed) {
			if same, e := event.Same(h, mixed); same != want || e != api.OK {
				t.Errorf("Same(%v, %v) = %v, %d, want %v", h, mixed, same, e, want)
			}
		}
	})
}

func TestSameOfAllSmallHistories(t *testing.T) { // P5.5
	var all [][]api.Event
	eachSmall(4, func(h []api.Event) {
		if inForm(h) {
			all = append(all, slices.Clone(h))
		}
	})
	for _, a := range all {
		for _, b := range all {
			if same, e := event.Same(a, b); e != api.OK || same != sameByTheWords(a, b) {
				t.Fatalf("Same(%v, %v) = %v, %d", a, b, same, e)
			}
		}
	}
}
