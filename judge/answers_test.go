package judge_test

import (
	"math"
	"math/rand"
	"slices"
	"testing"

	"larch/api"
	"larch/event"
	"larch/judge"
	"larch/model"
	"larch/search"
)

func has(pairs []api.Pair, key int) int {
	if slices.ContainsFunc(pairs, func(p api.Pair) bool { return p.Key == key }) {
		return 1
	}
	return 0
}

// tallied: as the chapter says, key by key.
func tallied(start []api.Pair, h []api.Event, end []api.Pair) bool {
	keys := []int{0, 77}
	for _, p := range slices.Concat(start, end) {
		keys = append(keys, p.Key)
	}
	for _, c := range callsOf(h) {
		keys = append(keys, c.Op.Key)
	}
	for _, key := range keys {
		a, e := has(start, key), has(end, key)
		i, d, p, q := 0, 0, 0, 0
		for _, c := range callsOf(h) {
			if c.Op.Key != key {
				continue
			}
			returned := c.To >= 0
			switch {
			case c.Op.Kind == api.Put && returned && !c.Ret.Ok:
				i++
			case c.Op.Kind == api.PutIfAbsent && returned && c.Ret.Ok:
				i++
			case c.Op.Kind == api.Delete && returned && c.Ret.Ok:
				d++
			case (c.Op.Kind == api.Put || c.Op.Kind == api.PutIfAbsent) && !returned:
				p++
			case c.Op.Kind == api.Delete && !returned:
				q++
			}
		}
		if !(a+i-d-q <= e && e <= a+i-d+p) {
			return false
		}
	}
	return true
}

func wantTally(t *testing.T, start []api.Pair, h []api.Event, end []api.Pair, want bool) {
	t.Helper()
	if is, e := judge.Tally(start, h, end); is != want || e != api.OK {
		t.Fatalf("Tally(%v, %v, %v) = %v, %d, want %v", start, h, end, is, e, want)
	}
}

func TestTallyByExamples(t *testing.T) { // P26.2
	five := pairsOf(1, 5)
	wantTally(t, nil, done(put(1, 5), no()), five, true)
	wantTally(t, nil, done(put(1, 5), no()), nil, false)
	wantTally(t, nil, row(invoked(0, put(1, 5))), nil, true)
	wantTally(t, nil, row(invoked(0, put(1, 5))), five, true)
}

// TestTallyAtItsBounds: below, at and above both of them.
func TestTallyAtItsBounds(t *testing.T) { // P26.2
	one := pairsOf(1, 5)
	twice := pairsOf(1, 5, 1, 6) // a key that stands twice is there once
	open := func(list ...api.Op) []api.Event {
		var h []api.Event
		for thread, o := range list {
			h = append(h, invoked(1+thread, o))
		}
		return h
	}
	yes := api.Ret{Ok: true}
	for i, c := range []struct {
		start []api.Pair
		h     []api.Event
		end   []api.Pair
		want  bool
	}{
		{nil, nil, nil, true}, {one, nil, one, true}, {one, nil, nil, false}, {nil, nil, one, false}, {twice, nil, one, true}, {one, nil, twice, true}, {twice, nil, twice, true},
		{one, nil, pairsOf(1, 7), true}, {one, nil, pairsOf(1, 5, 2, 0), false}, {pairsOf(1, 5, 2, 0), nil, one, false},
		{one, done(put(1, 9), ok(5)), one, true}, {one, done(put(1, 9), no()), one, false}, {nil, done(put(1, 9), ok(5)), one, false}, {nil, done(put(1, 9), ok(5)), nil, true},
		{nil, done(ifAbsent(1, 9), yes), one, true}, {nil, done(ifAbsent(1, 9), yes), nil, false}, {one, done(ifAbsent(1, 9), no()), one, true}, {nil, done(ifAbsent(1, 9), no()), one, false}, {one, done(ifAbsent(1, 9), yes), one, false},
		{one, done(del(1), ok(5)), nil, true}, {one, done(del(1), ok(5)), one, false}, {one, done(del(1), no()), one, true}, {one, done(del(1), no()), nil, false}, {nil, done(del(1), ok(5)), nil, false},
		{one, slices.Concat(done(del(1), ok(5)), done(put(1, 1), no())), one, true}, {one, slices.Concat(done(del(1), ok(5)), done(put(1, 1), no())), nil, false},
		{nil, open(ifAbsent(1, 1)), one, true}, {nil, open(ifAbsent(1, 1)), nil, true}, {one, open(del(1)), nil, true}, {one, open(del(1)), one, true},
		{one, open(put(1, 1)), nil, false}, {nil, open(del(1)), one, false}, {nil, open(put(1, 1), del(1)), one, true}, {one, open(put(1, 1), del(1)), nil, true},
		{one, slices.Concat(done(put(1, 9), no()), open(del(1))), one, true}, {one, slices.Concat(done(put(1, 9), no()), open(del(1))), nil, false}, {one, slices.Concat(done(put(1, 9), no()), open(del(1), del(1))), nil, true},
		{nil, slices.Concat(done(del(1), ok(5)), open(put(1, 1))), nil, true}, {nil, slices.Concat(done(del(1), ok(5)), open(put(1, 1))), one, false}, {nil, slices.Concat(done(del(1), ok(5)), open(put(1, 1), ifAbsent(1, 2))), one, true},
		{nil, slices.Concat(done(put(2, 9), no()), open(put(1, 1))), one, false}, {nil, slices.Concat(done(put(2, 9), no()), open(put(1, 1))), pairsOf(2, 9), true},
		{nil, done(get(1), ok(5)), nil, true}, {nil, done(get(1), no()), nil, true}, {nil, done(everything(), api.Ret{Ok: true, Pairs: one}), nil, true}, {nil, open(get(1), after(1), least(), rangeOf(1, 1)), one, false}, {one, open(get(1), before(1), greatest(), rangeOf(1, 1)), nil, false},
		{pairsOf(math.MinInt, 1, math.MaxInt, 2), done(del(math.MinInt), ok(1)), pairsOf(math.MaxInt, 2), true},
	} {
		if is, e := judge.Tally(c.start, c.h, c.end); is != c.want || e != api.OK {
			t.Errorf("row %d: Tally(%v, %v, %v) = %v, %d", i, c.start, c.h, c.end, is, e)
		}
	}
}

func TestTallyByChance(t *testing.T) { // P26.2
	r := rand.New(rand.NewSource(6))
	yes := 0
	for range 5000 {
		start, end := somePairs(r, 3), somePairs(r, 3)
		h := someHistory(r, start, r.Intn(12), api.Range, r.Intn(2) == 0)
		want := tallied(start, h, end)
		wantTally(t, start, h, end, want)
		if want {
			yes++
		}
	}
	if yes < 200 || yes > 4800 {
		t.Errorf("%d of 5000 are true: the test sees too little", yes)
	}
}

// sourced: as the chapter says, value by value.
func sourced(start []api.Pair, h []api.Event) bool {
	calls := callsOf(h)
	for i, c := range calls {
		if c.To < 0 {
			continue
		}
		var told []api.Pair
		switch c.Op.Kind {
		case api.Get, api.Put, api.Delete:
			if c.Ret.Ok {
				told = pairsOf(c.Op.Key, c.Ret.Val)
			}
		case api.PutIfAbsent:
			if !c.Ret.Ok {
				told = pairsOf(c.Op.Key, c.Ret.Val)
			}
		case api.Successor, api.Predecessor, api.Min, api.Max:
			if c.Ret.Ok {
				told = pairsOf(c.Ret.Key, c.Ret.Val)
			}
		case api.Range:
			told = c.Ret.Pairs
		}
		for _, p := range told {
			found := slices.Contains(model.Of(start), p)
			for j, other := range calls {
				isPut := other.Op.Kind == api.Put || other.Op.Kind == api.PutIfAbsent
				if j != i && isPut && other.Op.Key == p.Key && other.Op.Val == p.Val && other.From < c.To {
					found = true
				}
			}
			if !found {
				return false
			}
		}
	}
	return true
}

// TestSourcesByHand: each place that a value may come from, or may not.
func TestSourcesByHand(t *testing.T) { // P26.2
	start := pairsOf(1, 10, 2, 20, 1, 12)
	at := func(key, val int) api.Ret { return api.Ret{Ok: true, Key: key, Val: val} }
	during := func(o api.Op, ret api.Ret, puts api.Op) []api.Event {
		return row(invoked(0, o), invoked(1, puts), answered(0, o, ret))
	}
	behind := func(o api.Op, ret api.Ret, puts api.Op) []api.Event {
		return row(invoked(0, o), answered(0, o, ret), invoked(1, puts))
	}
	all := func(numbers ...int) api.Ret { return api.Ret{Ok: true, Pairs: pairsOf(numbers...)} }
	for i, c := range []struct {
		h    []api.Event
		want bool
	}{
		{nil, true}, {done(get(1), ok(12)), true}, {done(get(1), ok(10)), false}, {done(get(1), ok(11)), false}, {done(get(1), api.Ret{Val: 11}), true}, {done(get(2), ok(12)), false}, {done(get(3), ok(0)), false},
		{during(get(1), ok(11), put(1, 11)), true}, {during(get(1), ok(11), ifAbsent(1, 11)), true}, {during(get(1), ok(11), put(2, 11)), false}, {during(get(1), ok(11), put(1, 13)), false}, {during(get(1), ok(11), api.Op{Kind: api.Delete, Key: 1, Val: 11}), false},
		{during(get(1), ok(11), api.Op{Kind: api.Get, Key: 1, Val: 11}), false}, {behind(get(1), ok(11), put(1, 11)), false}, {behind(get(1), ok(11), ifAbsent(1, 11)), false}, {slices.Concat(done(put(1, 11), no()), done(get(1), ok(11))), true},
		{done(put(1, 11), ok(12)), true}, {done(put(1, 11), ok(11)), false}, {done(put(1, 12), ok(12)), true}, {during(put(1, 11), ok(11), put(1, 11)), true}, {behind(put(1, 11), ok(11), put(1, 11)), false}, {done(put(1, 11), no()), true}, {done(put(1, 11), api.Ret{Val: 9}), true},
		{slices.Concat(done(put(1, 11), no()), done(put(1, 11), ok(11))), true}, {slices.Concat(done(ifAbsent(1, 11), no()), done(put(1, 11), ok(11))), false},
		{done(ifAbsent(1, 11), api.Ret{Val: 12}), true}, {done(ifAbsent(1, 11), api.Ret{Val: 11}), false}, {done(ifAbsent(3, 0), no()), false}, {done(ifAbsent(1, 11), ok(9)), true}, {during(ifAbsent(1, 11), api.Ret{Val: 11}, put(1, 11)), true}, {during(ifAbsent(1, 11), api.Ret{Val: 11}, ifAbsent(1, 11)), true},
		{done(del(1), ok(12)), true}, {done(del(1), ok(11)), false}, {done(del(1), api.Ret{Val: 11}), true}, {during(del(1), ok(11), ifAbsent(1, 11)), true},
		{done(after(1), at(2, 20)), true}, {done(after(1), at(2, 12)), false}, {done(after(2), at(1, 12)), true}, {done(before(1), at(1, 11)), false}, {done(before(1), api.Ret{Key: 7, Val: 7}), true}, {during(before(9), at(7, 70), put(7, 70)), true}, {behind(before(9), at(7, 70), put(7, 70)), false},
		{done(least(), at(1, 12)), true}, {done(greatest(), at(2, 20)), true}, {done(greatest(), at(2, 21)), false}, {done(api.Op{Kind: api.Min, Key: 2, Val: 5}, at(2, 5)), false}, {done(api.Op{Kind: api.Max, Key: 2}, at(1, 12)), true}, {done(api.Op{Kind: api.Max, Key: 1}, at(2, 12)), false}, {done(least(), api.Ret{Key: 3, Val: 3}), true},
		{done(everything(), all()), true}, {done(everything(), all(1, 12, 2, 20)), true}, {done(everything(), all(1, 10, 2, 20)), false}, {done(everything(), all(1, 12, 2, 21)), false}, {done(everything(), api.Ret{Pairs: pairsOf(3, 3)}), false}, {during(everything(), all(1, 12, 3, 30), put(3, 30)), true}, {behind(everything(), all(3, 30), put(3, 30)), false},
		{done(api.Op{Kind: api.Range, Key: 3, Val: 30, Hi: 3}, all(3, 30)), false}, {row(invoked(0, get(1)), invoked(1, put(3, 3))), true},
	} {
		if is, e := judge.Sources(start, c.h); is != c.want || e != api.OK {
			t.Errorf("row %d: Sources(%v) = %v, %d", i, c.h, is, e)
		}
	}
}

func TestSourcesByChance(t *testing.T) { // P26.2
	r := rand.New(rand.NewSource(7))
	yes := 0
	for range 5000 {
		start := somePairs(r, 4)
		h := someHistory(r, start, r.Intn(12), api.Range, r.Intn(4) > 0)
		want := sourced(start, h)
		if is, e := judge.Sources(start, h); is != want || e != api.OK {
			t.Fatalf("Sources(%v, %v) = %v, %d, want %v", start, h, is, e, want)
		}
		if want {
			yes++
		}
	}
	if yes < 1000 || yes > 4500 {
		t.Errorf("%d of 5000 are true: the test sees too little", yes)
	}
}

// shaped: is the answer the one that is left when all is made zero that must be, and do its keys lie right?
func shaped(o api.Op, r api.Ret) bool {
	want, right := api.Ret{Ok: r.Ok}, true
	switch {
	case o.Kind == api.Range:
		want = api.Ret{Ok: true, Pairs: r.Pairs}
		for i, p := range r.Pairs {
			right = right && p.Key >= o.Key && p.Key <= o.Hi && (i == 0 || r.Pairs[i-1].Key < p.Key)
		}
	case o.Kind == api.PutIfAbsent:
		if !r.Ok {
			want.Val = r.Val
		}
	case r.Ok:
		want.Val = r.Val
		if o.Kind > api.Delete {
			want.Key = r.Key
		}
		right = !(o.Kind == api.Successor && r.Key <= o.Key) && !(o.Kind == api.Predecessor && r.Key >= o.Key)
	}
	return right && model.SameRet(r, want)
}

func wantShape(t *testing.T, o api.Op, r api.Ret, want bool) {
	t.Helper()
	if is, e := judge.Shapes(done(o, r)); is != want || e != api.OK {
		t.Errorf("Shapes of %v, %v = %v, %d, want %v", o, r, is, e, want)
	}
}

func TestShapesByExamples(t *testing.T) { // P26.2
	wantShape(t, get(1), api.Ret{Ok: true, Key: 3}, false)
	wantShape(t, rangeOf(5, 9), api.Ret{Ok: true, Pairs: pairsOf(4, 1)}, false)
	wantShape(t, rangeOf(5, 9), no(), false)
	wantShape(t, del(1), api.Ret{Val: 3}, false)
}

// TestShapesByHand: each field of each kind's answer, one at a time.
func TestShapesByHand(t *testing.T) { // P26.2
	for _, o := range ops(get(1), put(1, 1), del(1)) {
		wantShape(t, o, no(), true)
		wantShape(t, o, ok(4), true)
		wantShape(t, o, api.Ret{Val: 4}, false)
		wantShape(t, o, api.Ret{Key: 4}, false)
		wantShape(t, o, api.Ret{Ok: true, Key: 4}, false)
		wantShape(t, o, api.Ret{Ok: true, Pairs: pairsOf(1, 1)}, false)
		wantShape(t, o, api.Ret{Pairs: pairsOf(1, 1)}, false)
	}
	wantShape(t, ifAbsent(1, 1), api.Ret{Ok: true}, true)
	wantShape(t, ifAbsent(1, 1), ok(4), false)
	wantShape(t, ifAbsent(1, 1), api.Ret{Val: 4}, true)
	wantShape(t, ifAbsent(1, 1), api.Ret{Key: 4}, false)
	wantShape(t, ifAbsent(1, 1), api.Ret{Ok: true, Key: 4}, false)
	wantShape(t, ifAbsent(1, 1), api.Ret{Ok: true, Pairs: pairsOf(1, 1)}, false)
	for _, o := range ops(after(5), before(5), least(), greatest()) {
		wantShape(t, o, no(), true)
		wantShape(t, o, api.Ret{Val: 4}, false)
		wantShape(t, o, api.Ret{Key: 4}, false)
		wantShape(t, o, api.Ret{Key: 6}, false)
		wantShape(t, o, api.Ret{Pairs: pairsOf(6, 1)}, false)
		for key := 4; key <= 6; key++ {
			right := !(o.Kind == api.Successor && key < 6) && !(o.Kind == api.Predecessor && key > 4)
			wantShape(t, o, api.Ret{Ok: true, Key: key, Val: 3}, right)
			wantShape(t, o, api.Ret{Ok: true, Key: key, Pairs: pairsOf(key, 1)}, false)
		}
	}
	wantShape(t, api.Op{Kind: api.Min, Key: 5, Hi: 1}, api.Ret{Ok: true, Key: 3}, true) // a key that the kind doesn't use
	wantShape(t, api.Op{Kind: api.Max, Key: 5, Hi: 1}, api.Ret{Ok: true, Key: 9}, true)
	for i, c := range []struct {
		ret  api.Ret
		want bool
	}{
		{api.Ret{Ok: true}, true}, {api.Ret{Ok: true, Pairs: []api.Pair{}}, true}, {api.Ret{Ok: true, Pairs: pairsOf(5, 0, 7, 7, 9, 0)}, true}, {api.Ret{Ok: true, Pairs: pairsOf(7, -1)}, true},
		{api.Ret{Pairs: pairsOf(7, 1)}, false}, {api.Ret{Ok: true, Key: 7}, false}, {ok(7), false}, {api.Ret{Ok: true, Pairs: pairsOf(7, 1, 7, 1)}, false}, {api.Ret{Ok: true, Pairs: pairsOf(8, 1, 7, 1)}, false},
		{api.Ret{Ok: true, Pairs: pairsOf(4, 1, 7, 1)}, false}, {api.Ret{Ok: true, Pairs: pairsOf(7, 1, 10, 1)}, false},
	} {
		if is, e := judge.Shapes(done(rangeOf(5, 9), c.ret)); is != c.want || e != api.OK {
			t.Errorf("Range, row %d: %v, %d", i, is, e)
		}
	}
	wantShape(t, rangeOf(9, 5), api.Ret{Ok: true}, true)
	wantShape(t, rangeOf(9, 5), api.Ret{Ok: true, Pairs: pairsOf(7, 1)}, false)
	wantShape(t, everything(), api.Ret{Ok: true, Pairs: pairsOf(math.MinInt, 1, math.MaxInt, 2)}, true)
	wantShape(t, after(math.MaxInt), api.Ret{Ok: true, Key: math.MinInt}, false)
}

// TestShapesOfAll: all answers of a small world, of all operations.
func TestShapesOfAll(t *testing.T) { // P26.2
	lists := [][]api.Pair{nil, pairsOf(0, 1), pairsOf(2, 0), pairsOf(1, 0, 2, 0), pairsOf(2, 0, 1, 0), pairsOf(3, 3, 3, 3)}
	for kind := api.Get; kind <= api.Range; kind++ {
		for key := -1; key <= 3; key++ {
			for hi := 0; hi <= 3; hi++ {
				for n := range 3 * 3 * 2 * len(lists) {
					o := api.Op{Kind: kind, Key: key, Val: 1, Hi: hi}
					ret := api.Ret{Ok: n%2 == 0, Key: n/2%3 - 1, Val: n/6%3 - 1, Pairs: lists[n/18]}
					wantShape(t, o, ret, shaped(o, ret))
				}
			}
		}
	}
}

func TestShapesByChance(t *testing.T) { // P26.2
	r := rand.New(rand.NewSource(8))
	yes := 0
	for range 3000 {
		start := somePairs(r, 4)
		h := someHistory(r, start, r.Intn(12), api.Range, r.Intn(4) > 0)
		want := true
		for _, c := range callsOf(h) {
			want = want && (c.To < 0 || shaped(c.Op, c.Ret))
		}
		if is, e := judge.Shapes(h); is != want || e != api.OK {
			t.Fatalf("Shapes(%v) = %v, %d, want %v", h, is, e, want)
		}
		if want {
			yes++
		}
	}
	if yes < 500 || yes > 2500 {
		t.Errorf("%d of 3000 are true: the test sees too little", yes)
	}
}

func TestPending(t *testing.T) { // P26.2
	r := rand.New(rand.NewSource(9))
	for range 2000 {
		h := someHistory(r, nil, r.Intn(12), api.Range, true)
		want := 0
		for _, c := range callsOf(h) {
			if c.To < 0 && (c.Op.Kind == api.Put || c.Op.Kind == api.PutIfAbsent || c.Op.Kind == api.Delete) {
				want++
			}
		}
		if n, e := judge.Pending(h); n != want || e != api.OK {
			t.Fatalf("Pending(%v) = %d, %d, want %d", h, n, e, want)
		}
	}
	var all []api.Event
	for thread := range api.MaxThreads {
		all = append(all, invoked(thread, ops(put(1, 1), ifAbsent(1, 1), del(1))[thread%3]))
	}
	if n, e := judge.Pending(all); n != api.MaxThreads || e != api.OK {
		t.Errorf("Pending of 64 = %d, %d", n, e)
	}
	if n, e := judge.Pending(nil); n != 0 || e != api.OK {
		t.Errorf("Pending of nothing = %d, %d", n, e)
	}
}

// TestWhatOrderBrings: where there is an order, Sources and Shapes are true, and so is Tally of each map to which one comes.
func TestWhatOrderBrings(t *testing.T) { // P26.2
	r := rand.New(rand.NewSource(10))
	orders := 0
	for range 3000 {
		start := somePairs(r, 4)
		h := someHistory(r, start, r.Intn(9), api.Range, r.Intn(3) == 0)
		if is, _ := judge.Order(start, h); !is {
			continue
		}
		orders++
		sources, e1 := judge.Sources(start, h)
		shapes, e2 := judge.Shapes(h)
		if !sources || !shapes || e1 != api.OK || e2 != api.OK {
			t.Fatalf("of %v, %v: Sources %v, %d, Shapes %v, %d", start, h, sources, e1, shapes, e2)
		}
		ends, _ := search.Ends(search.Map, search.State{Pairs: model.Of(start)}, h)
		for _, end := range ends {
			wantTally(t, start, h, end.Pairs, true)
		}
	}
	if orders < 1000 {
		t.Errorf("%d orders: the test sees too little", orders)
	}
}

// TestAnswersOfPlays: of long histories of plays, in which no order can be searched.
func TestAnswersOfPlays(t *testing.T) { // P26.2
	r := rand.New(rand.NewSource(11))
	for range 100 {
		g := someGame(r, 8, 12, r.Intn(3000))
		h, list := runOf(t, g)
		sources, e1 := judge.Sources(g.Start, h)
		shapes, e2 := judge.Shapes(h)
		if !sources || !shapes || e1 != api.OK || e2 != api.OK {
			t.Fatalf("of %v: Sources %v, %d, Shapes %v, %d", g, sources, e1, shapes, e2)
		}
		wantTally(t, g.Start, h, pairsIn(t, list), true)
	}
}

func TestAnswersOfLong(t *testing.T) { // P26.2
	h := slices.Concat(done(put(1, 1), no()), slices.Repeat(done(put(1, 1), ok(1)), event.MaxEvents/2-1))
	sources, e1 := judge.Sources(nil, h)
	shapes, e2 := judge.Shapes(h)
	tally, e3 := judge.Tally(nil, h, pairsOf(1, 1))
	if !sources || !shapes || !tally || e1+e2+e3 != api.OK {
		t.Errorf("of %d events: %v, %v, %v; %d, %d, %d", len(h), sources, shapes, tally, e1, e2, e3)
	}
}

func TestAnswersOfNoHistory(t *testing.T) { // P26.2
	for _, c := range wrongHistories() {
		if is, e := judge.Tally(nil, c.h, nil); is || e != c.e {
			t.Errorf("%s: Tally = %v, %d, want %d", c.name, is, e, c.e)
		}
		if is, e := judge.Sources(nil, c.h); is || e != c.e {
			t.Errorf("%s: Sources = %v, %d, want %d", c.name, is, e, c.e)
		}
		if is, e := judge.Shapes(c.h); is || e != c.e {
			t.Errorf("%s: Shapes = %v, %d, want %d", c.name, is, e, c.e)
		}
		if n, e := judge.Pending(c.h); n != 0 || e != c.e {
			t.Errorf("%s: Pending = %d, %d, want %d", c.name, n, e, c.e)
		}
	}
}
