package judge_test

import (
	"math/rand"
	"slices"
	"testing"

	"larch/api"
	"larch/event"
	"larch/judge"
	"larch/model"
	"larch/search"
)

// ordersOf: all rows of numbers below n, each at most once, lexicographically; a row stands ahead of those that go on from it.
func ordersOf(n int, row []int, tell func(order []int)) {
	tell(row)
	for i := range n {
		if !slices.Contains(row, i) {
			ordersOf(n, append(slices.Clone(row), i), tell)
		}
	}
}

// firstOrder: K9, by trying all rows.
func firstOrder(start []api.Pair, h []api.Event) ([]int, bool) {
	calls := callsOf(h)
	var first []int
	found := false
	ordersOf(len(calls), nil, func(order []int) {
		if found || !standsRight(calls, order) {
			return
		}
		now := model.Of(start)
		for _, i := range order {
			var ret api.Ret
			now, ret, _ = model.Do(now, calls[i].Op)
			if calls[i].To >= 0 && !model.SameRet(ret, calls[i].Ret) {
				return
			}
		}
		first, found = order, true
	})
	return first, found
}

// standsRight: is each returned one in the order, and none behind one that it is ahead of?
func standsRight(calls []event.Call, order []int) bool {
	for i, c := range calls {
		at := slices.Index(order, i)
		if at == -1 && c.To >= 0 {
			return false
		}
		for j, other := range calls {
			if before := slices.Index(order, j); c.To >= 0 && c.To < other.From && before >= 0 && before < at {
				return false
			}
		}
	}
	return true
}

// wantOrder: Order and Witness answer so.
func wantOrder(t *testing.T, start []api.Pair, h []api.Event, order []int, is bool) {
	t.Helper()
	if got, e := judge.Order(start, h); got != is || e != api.OK {
		t.Fatalf("Order(%v, %v) = %v, %d, want %v", start, h, got, e, is)
	}
	if got, yes, e := judge.Witness(start, h); !slices.Equal(got, order) || yes != is || e != api.OK {
		t.Fatalf("Witness(%v, %v) = %v, %v, %d, want %v, %v", start, h, got, yes, e, order, is)
	}
}

func TestOrderByExamples(t *testing.T) { // P26.1
	start := pairsOf(1, 10)
	wantOrder(t, start, done(get(1), ok(10)), []int{0}, true)
	wantOrder(t, start, done(get(1), ok(11)), nil, false)
	wantOrder(t, start, row(invoked(0, get(1)), invoked(1, put(1, 11)), answered(0, get(1), ok(11))), []int{1, 0}, true)
	wantOrder(t, nil, nil, nil, true)
}

func TestOrderByHand(t *testing.T) { // P26.1
	start := pairsOf(1, 10, 1, 12) // of one key the last one counts
	late := row(invoked(0, get(1)), answered(0, get(1), ok(11)), invoked(1, put(1, 11)))
	open := row(invoked(0, put(1, 11)), invoked(1, get(1)), answered(1, get(1), ok(12)), invoked(1, get(1)), answered(1, get(1), ok(11)))
	back := row(invoked(0, put(1, 11)), invoked(1, get(1)), answered(1, get(1), ok(11)), invoked(1, get(1)), answered(1, get(1), ok(12)))
	whole := api.Ret{Ok: true, Pairs: pairsOf(1, 12, 2, 5)}
	for _, c := range []struct {
		h     []api.Event
		order []int
		is    bool
	}{
		{done(get(1), ok(12)), []int{0}, true},
		{done(get(1), ok(10)), nil, false},
		{late, nil, false},
		{open, []int{1, 0, 2}, true},
		{back, nil, false},
		{row(invoked(0, put(1, 11)), invoked(1, del(1))), nil, true},
		{row(invoked(0, put(2, 5)), invoked(1, everything()), answered(1, everything(), whole)), []int{0, 1}, true},
		{row(invoked(0, del(1)), invoked(1, everything()), answered(1, everything(), whole)), nil, false},
		{slices.Concat(done(put(1, 3), ok(12)), done(del(1), ok(3)), done(ifAbsent(1, 4), api.Ret{Ok: true}), done(greatest(), api.Ret{Ok: true, Key: 1, Val: 4})), []int{0, 1, 2, 3}, true},
	} {
		wantOrder(t, start, c.h, c.order, c.is)
	}
}

// TestOrderByAllRows: of up to five operations, against all rows of them.
func TestOrderByAllRows(t *testing.T) { // P26.1
	r := rand.New(rand.NewSource(1))
	yes, pending := 0, 0
	for range 3000 {
		start := somePairs(r, 4)
		h := someHistory(r, start, r.Intn(6), api.Range, r.Intn(2) == 0)
		order, is := firstOrder(start, h)
		wantOrder(t, start, h, order, is)
		if is {
			yes++
		}
		if open, _ := event.Pending(h); len(open) > 0 {
			pending++
		}
	}
	if yes < 1000 || yes > 2800 || pending < 1000 {
		t.Errorf("%d with an order, %d with pending operations, of 3000: the test sees too little", yes, pending)
	}
}

// TestOrderIsTheSearch: of up to eight operations, against layer 7; of histories of plays there is an order.
func TestOrderIsTheSearch(t *testing.T) { // P26.1
	r := rand.New(rand.NewSource(2))
	for range 1000 {
		start := somePairs(r, 4)
		h := someHistory(r, start, r.Intn(9), api.Range, r.Intn(2) == 0)
		order, is, _ := search.Find(search.Map, search.State{Pairs: model.Of(start)}, h)
		wantOrder(t, start, h, order, is)
	}
	for range 300 {
		g := someGame(r, 4, 2, r.Intn(500))
		h, _ := runOf(t, g)
		if is, e := judge.Order(g.Start, h); !is || e != api.OK {
			t.Fatalf("Order of the play %v: %v, %d", g, is, e)
		}
	}
}

func TestOrderAtTheLimits(t *testing.T) { // P26.1
	eight := slices.Repeat(done(get(1), no()), 8)
	wantOrder(t, nil, eight, []int{0, 1, 2, 3, 4, 5, 6, 7}, true)
	wantOrder(t, pairsOf(1, 1), eight, nil, false)
	var open []api.Event
	for thread := range 9 {
		open = append(open, invoked(thread, put(thread, 1)))
	}
	wantOrder(t, nil, open[:8], nil, true)
	for _, h := range [][]api.Event{slices.Repeat(done(get(1), no()), 9), slices.Repeat(done(get(1), ok(7)), 9), open, slices.Repeat(done(least(), no()), event.MaxEvents/2)} {
		if is, e := judge.Order(nil, h); is || e != api.ErrBig {
			t.Errorf("Order of %d events = %v, %d", len(h), is, e)
		}
		if order, is, e := judge.Witness(nil, h); is || len(order) != 0 || e != api.ErrBig {
			t.Errorf("Witness of %d events = %v, %v, %d", len(h), order, is, e)
		}
	}
}

// partOf: as the chapter says, by the operations.
func partOf(h []api.Event, key int) []api.Event {
	keep := make([]bool, len(h))
	for _, c := range callsOf(h) {
		switch c.Op.Kind {
		case api.Get, api.Put, api.PutIfAbsent, api.Delete:
			if c.Op.Key == key {
				keep[c.From] = true
				if c.To >= 0 {
					keep[c.To] = true
				}
			}
		}
	}
	var part []api.Event
	for i, e := range h {
		if keep[i] {
			part = append(part, e)
		}
	}
	return part
}

func TestPart(t *testing.T) { // P26.1
	r := rand.New(rand.NewSource(3))
	for range 1000 {
		h := someHistory(r, nil, r.Intn(20), api.Range, true)
		for _, key := range []int{0, 1, 2, someKey(r), 77} {
			part, e := judge.Part(h, key)
			if want := partOf(h, key); e != api.OK || !slices.EqualFunc(part, want, sameEvent) || event.Check(part) != api.OK {
				t.Fatalf("Part(%v, %d) = %v, %d, want %v", h, key, part, e, want)
			}
		}
	}
	low := api.Op{Kind: api.Min, Key: 1}
	others := slices.Concat(done(low, no()), done(api.Op{Kind: api.Max, Key: 1}, no()), done(after(1), no()), done(before(1), no()), done(rangeOf(1, 1), api.Ret{Ok: true}))
	if part, e := judge.Part(others, 1); e != api.OK || len(part) != 0 {
		t.Errorf("of operations of other kinds: %v, %d", part, e)
	}
	many := slices.Repeat(done(get(3), ok(1)), event.MaxEvents/2)
	if part, e := judge.Part(many, 3); e != api.OK || len(part) != len(many) {
		t.Errorf("of %d events: %d, %d", len(many), len(part), e)
	}
}

func TestKeysByExamples(t *testing.T) { // P26.1
	h := slices.Concat(done(put(1, 5), no()), done(put(2, 6), ok(9)))
	if is, e := judge.Keys(nil, h); is || e != api.OK {
		t.Errorf("example 2: %v, %d", is, e)
	}
	if is, e := judge.Keys(pairsOf(2, 9), h); !is || e != api.OK {
		t.Errorf("example 2, from 2:9: %v, %d", is, e)
	}
	if is, e := judge.Keys(nil, append(h, done(least(), no())...)); is || e != api.ErrKind {
		t.Errorf("example 2, with a Min: %v, %d", is, e)
	}
	if is, e := judge.Keys(pairsOf(1, 1), nil); !is || e != api.OK {
		t.Errorf("of nothing: %v, %d", is, e)
	}
}

// TestKeysIsOrder: of these four kinds, of at most eight operations.
func TestKeysIsOrder(t *testing.T) { // P26.1
	r := rand.New(rand.NewSource(4))
	yes := 0
	for range 3000 {
		start := somePairs(r, 5)
		h := someHistory(r, start, r.Intn(9), api.Delete, r.Intn(2) == 0)
		order, e1 := judge.Order(start, h)
		keys, e2 := judge.Keys(start, h)
		if order != keys || e1 != api.OK || e2 != api.OK {
			t.Fatalf("of %v, %v: Order %v, %d, Keys %v, %d", start, h, order, e1, keys, e2)
		}
		if keys {
			yes++
		}
	}
	if yes < 1000 || yes > 2800 {
		t.Errorf("%d with an order, of 3000: the test sees too little", yes)
	}
}

// TestKeysByParts: of long histories, against Order of each key's part, from the whole start.
func TestKeysByParts(t *testing.T) { // P26.1
	r := rand.New(rand.NewSource(5))
	yes, big := 0, 0
	for range 1000 {
		start := somePairs(r, 5)
		h := someHistory(r, start, r.Intn(30), api.Delete, r.Intn(3) == 0)
		want, wantError := true, api.OK
		for _, c := range callsOf(h) {
			is, e := judge.Order(start, partOf(h, c.Op.Key))
			want = want && is
			wantError = max(wantError, e)
		}
		if wantError != api.OK {
			want = false
			big++
		}
		if is, e := judge.Keys(start, h); is != want || e != wantError {
			t.Fatalf("Keys(%v, %v) = %v, %d, want %v, %d", start, h, is, e, want, wantError)
		}
		if want {
			yes++
		}
	}
	if yes < 200 || big < 100 {
		t.Errorf("%d with an order, %d that are too big: the test sees too little", yes, big)
	}
}

// TestKeysErrors: the first one by the operations' numbers.
func TestKeysErrors(t *testing.T) { // P26.1
	eight, nine := slices.Repeat(done(get(1), no()), 8), slices.Repeat(done(get(1), no()), 9)
	low := done(least(), no())
	open := row(invoked(1, least()))
	for i, c := range []struct {
		h []api.Event
		e api.Errno
	}{
		{eight, api.OK}, {nine, api.ErrBig}, {slices.Concat(eight, low), api.ErrKind}, {slices.Concat(eight, open), api.ErrKind},
		{slices.Concat(low, nine), api.ErrKind}, {slices.Concat(nine, low), api.ErrBig}, {slices.Concat(eight, low, done(get(1), no())), api.ErrKind},
		{slices.Concat(eight, row(invoked(1, put(1, 1))), low), api.ErrBig}, {slices.Concat(open, nine), api.ErrKind}, {slices.Concat(nine, open), api.ErrBig},
		{slices.Concat(eight, done(get(2), no()), slices.Repeat(done(get(3), no()), 8)), api.OK},
		{slices.Concat(eight, slices.Repeat(done(get(2), no()), 9), low), api.ErrBig},
		{slices.Concat(row(invoked(1, get(1))), eight[:14], row(invoked(2, get(1))), low), api.ErrBig},
	} {
		if is, e := judge.Keys(nil, c.h); e != c.e || is != (e == api.OK) {
			t.Errorf("row %d: Keys = %v, %d, want %d", i, is, e, c.e)
		}
	}
	for _, o := range ops(after(1), before(1), least(), greatest(), rangeOf(1, 1), everything()) {
		if _, e := judge.Keys(nil, row(invoked(0, o))); e != api.ErrKind {
			t.Errorf("Keys of %v: %d", o, e)
		}
	}
	for _, o := range ops(get(1), put(1, 1), ifAbsent(1, 1), del(1)) {
		if is, e := judge.Keys(nil, row(invoked(0, o))); !is || e != api.OK {
			t.Errorf("Keys of %v: %v, %d", o, is, e)
		}
	}
}

// TestKeysOfMany: a long history of many keys.
func TestKeysOfMany(t *testing.T) { // P26.1
	var h []api.Event
	var start []api.Pair
	for key := range event.MaxEvents / 8 {
		start = append(start, api.Pair{Key: -key, Val: key})
		for val := range 4 {
			last := ok(val - 1)
			if val == 0 {
				last = ok(key)
			}
			h = append(h, done(put(-key, val), last)...)
		}
	}
	if is, e := judge.Keys(start, h); !is || e != api.OK {
		t.Errorf("%d events: %v, %d", len(h), is, e)
	}
	h[len(h)-1].Ret.Val = 9
	if is, e := judge.Keys(start, h); is || e != api.OK {
		t.Errorf("%d events, a wrong one: %v, %d", len(h), is, e)
	}
}

func TestOrdersOfNoHistory(t *testing.T) { // P26.1
	for _, c := range wrongHistories() {
		if is, e := judge.Order(nil, c.h); is || e != c.e {
			t.Errorf("%s: Order = %v, %d, want %d", c.name, is, e, c.e)
		}
		if order, is, e := judge.Witness(nil, c.h); len(order) != 0 || is || e != c.e {
			t.Errorf("%s: Witness = %v, %v, %d, want %d", c.name, order, is, e, c.e)
		}
		if is, e := judge.Keys(nil, c.h); is || e != c.e {
			t.Errorf("%s: Keys = %v, %d, want %d", c.name, is, e, c.e)
		}
		if part, e := judge.Part(c.h, 1); len(part) != 0 || e != c.e {
			t.Errorf("%s: Part = %v, %d, want %d", c.name, part, e, c.e)
		}
	}
}
