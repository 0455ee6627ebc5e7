package search_test

import (
	"math"
	"math/rand"
	"slices"
	"testing"

	"larch/api"
	"larch/event"
	"larch/search"
)

// wantOrders: Find, Count, Ends and, of these orders, Is.
func wantOrders(t *testing.T, thing int, s search.State, h []api.Event, orders [][]int, ends []search.State) {
	t.Helper()
	first, is, e := search.Find(thing, s, h)
	if e != api.OK || is != (len(orders) > 0) || is && !slices.Equal(first, orders[0]) || !is && len(first) != 0 {
		t.Fatalf("Find(%d, %v, %v) = %v, %v, %d, want the first of %v", thing, s, h, first, is, e, orders)
	}
	if n, e := search.Count(thing, s, h); n != len(orders) || e != api.OK {
		t.Fatalf("Count(%d, %v, %v) = %d, %d, want %v", thing, s, h, n, e, orders)
	}
	got, e := search.Ends(thing, s, h)
	if e != api.OK || !sameStates(got, ends) || slices.ContainsFunc(got, func(s search.State) bool { return !isPlain(s) }) {
		t.Fatalf("Ends(%d, %v, %v) = %v, %d, want %v", thing, s, h, got, e, ends)
	}
	for _, order := range orders {
		wantIs(t, thing, s, h, order, true)
	}
}

func wantIs(t *testing.T, thing int, s search.State, h []api.Event, order []int, want bool) {
	t.Helper()
	if is, e := search.Is(thing, s, h, order); is != want || e != api.OK {
		t.Fatalf("Is(%d, %v, %v, %v) = %v, %d", thing, s, h, order, is, e)
	}
}

func TestOrdersByExamples(t *testing.T) { // P7.2
	five, ok := api.Ret{Ok: true, Val: 5}, api.Ret{Ok: true}
	put, take := api.Op{Kind: 1, Val: 5}, api.Op{Kind: 2}
	wantOrders(t, search.Queue, vals(), []api.Event{invoked(0, put), invoked(1, take), returned(1, take, five), returned(0, put, ok)}, [][]int{{0, 1}}, []search.State{{}})
	wantOrders(t, search.Queue, vals(), []api.Event{invoked(0, take), returned(0, take, five)}, nil, nil)
	write, read := api.Op{Kind: 2, Val: 1}, api.Op{Kind: 1}
	one := []api.Event{invoked(0, write), invoked(1, read), returned(1, read, api.Ret{Ok: true, Val: 1})}
	wantOrders(t, search.Register, vals(0), one, [][]int{{0, 1}}, []search.State{vals(1)})
	zero := []api.Event{invoked(0, write), invoked(1, read), returned(1, read, ok)}
	wantOrders(t, search.Register, vals(0), zero, [][]int{{1}, {1, 0}}, []search.State{vals(0), vals(1)})
	late := []api.Event{invoked(0, write), returned(0, write, ok), invoked(1, read), returned(1, read, ok)}
	wantOrders(t, search.Register, vals(0), late, nil, nil)
	open := []api.Event{invoked(0, api.Op{Kind: api.Put, Key: 1, Val: 2}), invoked(1, api.Op{Kind: api.Get, Key: 1})}
	wantOrders(t, search.Map, pairs(), open, [][]int{{}, {0}, {0, 1}, {1}, {1, 0}}, []search.State{{}, pairs(api.Pair{Key: 1, Val: 2})})
	wantIs(t, search.Map, pairs(), open, []int{0, 0}, false)
	for _, thing := range all {
		for _, s := range starts(thing) {
			wantOrders(t, thing, s, nil, [][]int{{}}, []search.State{s})
			wantOrders(t, thing, s, []api.Event{}, [][]int{{}}, []search.State{s})
		}
	}
}

// TestOrdersOfSmallHistories: all of them, and all orders of each.
func TestOrdersOfSmallHistories(t *testing.T) { // P7.2
	for _, thing := range all {
		for _, s := range starts(thing)[:2] {
			eachSmall(thing, 5, func(h []api.Event) {
				orders, ends := found(thing, s, h)
				wantOrders(t, thing, s, h, orders, ends)
			})
		}
	}
}

func TestOrdersByChance(t *testing.T) { // P7.2
	r := rand.New(rand.NewSource(8))
	rightOnes, wrongOnes := 0, 0
	for range 300 {
		for _, thing := range all {
			s := starts(thing)[r.Intn(len(starts(thing)))]
			h := someHistory(r, thing, s, 1+r.Intn(4), 1+r.Intn(5))
			orders, ends := found(thing, s, h)
			wantOrders(t, thing, s, h, orders, ends)
			if len(orders) > 0 {
				rightOnes++
			} else {
				wrongOnes++
			}
		}
	}
	if rightOnes < 300 || wrongOnes < 30 {
		t.Errorf("%d histories have an order, %d have none: the test sees too little", rightOnes, wrongOnes)
	}
}

// TestIsOfAllLists: also of lists in which the history isn't right.
func TestIsOfAllLists(t *testing.T) { // P7.2
	r := rand.New(rand.NewSource(9))
	for range 100 {
		for _, thing := range all {
			s := starts(thing)[0]
			h := someHistory(r, thing, s, 3, 4)
			calls, _ := event.Calls(h)
			eachOrder(len(calls), func(order []int) {
				_, want := right(thing, s, calls, order)
				wantIs(t, thing, s, h, order, want)
			})
		}
	}
}

func TestIsOfListsThatAreNoOrders(t *testing.T) { // P7.2
	h := row(search.Counter, vals(0), api.Op{Kind: 2, Val: 1}, api.Op{Kind: 1})
	open := slices.Concat(h, []api.Event{invoked(5, api.Op{Kind: 1})})
	wantIs(t, search.Counter, vals(0), h, []int{0, 1}, true)
	wantIs(t, search.Counter, vals(0), open, []int{0, 1}, true)
	wantIs(t, search.Counter, vals(0), open, []int{0, 1, 2}, true)
	for _, order := range [][]int{nil, {}, {0}, {1}, {1, 0}, {0, 1, 0}, {0, 1, 1}, {0, 0}, {0, 2}, {0, 2, 1}, {2, 0, 1}, {0, 1, 3}, {0, 1, -1}, {-1}, {math.MinInt}, {math.MaxInt, 0, 1}, {0, 1, 2, 2}, make([]int, 100000)} {
		wantIs(t, search.Counter, vals(0), open, order, false)
	}
	wantIs(t, search.Counter, vals(0), h, []int{0, 1, 2}, false)
	wantIs(t, search.Counter, vals(1), h, []int{0, 1}, false)
	wantIs(t, search.Stack, vals(), nil, nil, true)
	wantIs(t, search.Stack, vals(), nil, []int{0}, false)
}

// TestPendingOnes: an order may leave them out or take them in, and nobody asks what they answer.
func TestPendingOnes(t *testing.T) { // P7.2
	push, pop := api.Op{Kind: 1, Val: 4}, api.Op{Kind: 2}
	h := []api.Event{invoked(0, pop), invoked(1, push), invoked(2, pop), returned(2, pop, api.Ret{Ok: true, Val: 4})}
	wantOrders(t, search.Stack, vals(), h, [][]int{{0, 1, 2}, {1, 2}, {1, 2, 0}}, []search.State{{}})
	wantOrders(t, search.Stack, vals(9), h, [][]int{{0, 1, 2}, {1, 2}, {1, 2, 0}}, []search.State{{}, vals(9)})
	wantOrders(t, search.Stack, vals(4), h[:3:3], [][]int{{}, {0}, {0, 1}, {0, 1, 2}, {0, 2}, {0, 2, 1}, {1}, {1, 0}, {1, 0, 2}, {1, 2}, {1, 2, 0}, {2}, {2, 0}, {2, 0, 1}, {2, 1}, {2, 1, 0}},
		[]search.State{vals(4), {}, vals(4, 4)})
	behind := []api.Event{invoked(0, push), returned(0, push, api.Ret{Ok: true}), invoked(1, pop)}
	wantOrders(t, search.Queue, vals(1), behind, [][]int{{0}, {0, 1}}, []search.State{vals(1, 4), vals(4)})
}

// TestAnswersAreAskedWhole: an answer that differs in one field alone is another.
func TestAnswersAreAskedWhole(t *testing.T) { // P7.2
	s := pairs(api.Pair{Key: 1, Val: 2}, api.Pair{Key: 3, Val: 4})
	op := api.Op{Kind: api.Range, Key: 0, Hi: 9}
	all := []api.Pair{{Key: 1, Val: 2}, {Key: 3, Val: 4}}
	for _, c := range []struct {
		ret  api.Ret
		want int
	}{
		{api.Ret{Ok: true, Pairs: all}, 1}, {api.Ret{Pairs: all}, 0}, {api.Ret{Ok: true, Pairs: all[:1]}, 0}, {api.Ret{Ok: true}, 0},
		{api.Ret{Ok: true, Key: 1, Pairs: all}, 0}, {api.Ret{Ok: true, Val: 1, Pairs: all}, 0}, {api.Ret{Ok: true, Pairs: []api.Pair{all[0], {Key: 3, Val: 5}}}, 0},
	} {
		h := []api.Event{invoked(0, op), returned(0, op, c.ret)}
		if n, e := search.Count(search.Map, s, h); n != c.want || e != api.OK {
			t.Errorf("Count of the answer %v = %d, %d", c.ret, n, e)
		}
	}
	push := api.Op{Kind: 1, Val: 3}
	for _, ret := range []api.Ret{{}, {Ok: true, Val: 3}, {Ok: true, Key: 1}, {Ok: true, Pairs: all}} {
		if n, _ := search.Count(search.Stack, vals(), []api.Event{invoked(0, push), returned(0, push, ret)}); n != 0 {
			t.Errorf("Count of a push's answer %v = %d", ret, n)
		}
	}
	if n, _ := search.Count(search.Stack, vals(), []api.Event{invoked(0, push), returned(0, push, api.Ret{Ok: true, Pairs: []api.Pair{}})}); n != 1 {
		t.Errorf("Count of an answer with an empty list = %d", n)
	}
}

// TestOrdersOfNumbersThatWrap: two adds and a read at the end of the whole numbers.
func TestOrdersOfNumbersThatWrap(t *testing.T) { // P7.2
	one, most := api.Op{Kind: 2, Val: 1}, api.Op{Kind: 2, Val: math.MaxInt}
	h := []api.Event{invoked(0, one), invoked(1, most), returned(0, one, api.Ret{Ok: true, Val: math.MinInt}), returned(1, most, api.Ret{Ok: true, Val: math.MaxInt})}
	wantOrders(t, search.Counter, vals(0), h, [][]int{{1, 0}}, []search.State{vals(math.MinInt)})
	h[3].Ret.Val = -1
	wantOrders(t, search.Counter, vals(math.MaxInt), h, [][]int{{0, 1}}, []search.State{vals(-1)})
}

// TestEightOperations: as many as are searched, all at once.
func TestEightOperations(t *testing.T) { // P7.2
	var pending, whole []api.Event
	for i := range search.MaxSearch {
		pending = append(pending, invoked(i, api.Op{Kind: 1, Val: i}))
	}
	n, e := search.Count(search.Stack, vals(), pending)
	ends, f := search.Ends(search.Stack, vals(), pending)
	first, is, g := search.Find(search.Stack, vals(), pending)
	if n != 109601 || len(ends) != n || len(first) != 0 || !is || e != api.OK || f != api.OK || g != api.OK { // 8! / 8! + 8! / 7! + .. + 8! / 0!
		t.Errorf("eight pending pushes: Count %d, %d states, Find %v, %v", n, len(ends), first, is)
	}
	for i, end := range ends {
		if i > 0 && slices.Compare(ends[i-1].Vals, end.Vals) >= 0 { // a push's number is what it pushes
			t.Fatalf("the states stand as %v, %v", ends[i-1].Vals, end.Vals)
		}
	}
	whole = slices.Clone(pending)
	for i := range search.MaxSearch {
		whole = append(whole, returned(i, api.Op{Kind: 1, Val: i}, api.Ret{Ok: true}))
	}
	if n, e := search.Count(search.Queue, vals(), whole); n != 40320 || e != api.OK {
		t.Errorf("eight puts: Count = %d, %d", n, e)
	}
	if first, is, _ := search.Find(search.Queue, vals(), whole); !is || !slices.Equal(first, []int{0, 1, 2, 3, 4, 5, 6, 7}) {
		t.Errorf("eight puts: Find = %v, %v", first, is)
	}
	last := []api.Event{invoked(0, api.Op{Kind: 3, Key: 6, Val: 7})}
	for i := 6; i >= 0; i-- { // each of them needs the next one's write, so there is one order: the last one first
		last = append(last, invoked(7-i, api.Op{Kind: 3, Key: i - 1, Val: i}))
	}
	for _, e := range slices.Clone(last) {
		last = append(last, returned(e.Thread, e.Op, api.Ret{Ok: true}))
	}
	wantOrders(t, search.Register, vals(-1), last, [][]int{{7, 6, 5, 4, 3, 2, 1, 0}}, []search.State{vals(7)})
}

// TestEndsTellNumbersApart: numbers that differ in one byte alone.
func TestEndsTellNumbersApart(t *testing.T) { // P7.2
	var h []api.Event
	want, wantPairs := []search.State{vals(0)}, []search.State{pairs()}
	for i := range 8 {
		h = append(h, invoked(i, api.Op{Kind: 2, Key: 3, Val: 1 << (8 * i)}))
		want = append(want, vals(1<<(8*i)))
		wantPairs = append(wantPairs, pairs(api.Pair{Key: 3, Val: 1 << (8 * i)}))
	}
	first := func(list []search.State, s search.State) int {
		return slices.IndexFunc(list, func(known search.State) bool { return sameState(known, s) })
	}
	byWrites, _ := search.Ends(search.Register, vals(0), h)
	byPuts, _ := search.Ends(search.Map, pairs(), h)
	if len(byWrites) != len(want) || len(byPuts) != len(want) {
		t.Fatalf("Ends = %v; %v", byWrites, byPuts)
	}
	for i := range want {
		if first(byWrites, want[i]) < 0 || first(byPuts, wantPairs[i]) < 0 {
			t.Errorf("Ends lacks %v or %v", want[i], wantPairs[i])
		}
	}
}

// TestEightByWords: all 109601 lists of some histories of eight.
func TestEightByWords(t *testing.T) { // P7.2
	r := rand.New(rand.NewSource(10))
	for _, thing := range all {
		s := starts(thing)[1]
		h := someHistory(r, thing, s, 4, search.MaxSearch)
		orders, ends := found(thing, s, h)
		wantOrders(t, thing, s, h, orders, ends)
	}
}

// wantRefused: all four calls answer the error, and nothing else.
func wantRefused(t *testing.T, what string, thing int, s search.State, h []api.Event, want api.Errno) {
	t.Helper()
	order, is, e := search.Find(thing, s, h)
	if order != nil || is || e != want {
		t.Errorf("%s: Find = %v, %v, %d, want %d", what, order, is, e, want)
	}
	for _, order := range [][]int{nil, {0}, {5, 5}} {
		if is, e := search.Is(thing, s, h, order); is || e != want {
			t.Errorf("%s: Is = %v, %d, want %d", what, is, e, want)
		}
	}
	if n, e := search.Count(thing, s, h); n != 0 || e != want {
		t.Errorf("%s: Count = %d, %d, want %d", what, n, e, want)
	}
	if ends, e := search.Ends(thing, s, h); ends != nil || e != want {
		t.Errorf("%s: Ends = %v, %d, want %d", what, ends, e, want)
	}
}

// TestHistoriesThatAreRefused: the errors in their order: what is wrong earlier counts.
func TestHistoriesThatAreRefused(t *testing.T) { // P7.2
	eight := make([]api.Event, 0, 30)
	for i := range 8 {
		eight = append(eight, invoked(i, api.Op{Kind: 1 + i%2}))
	}
	nine := slices.Concat(eight, []api.Event{invoked(8, api.Op{Kind: 2})})
	longRow := row(search.Queue, vals(), slices.Repeat([]api.Op{{Kind: 1}, {Kind: 2}, {Kind: 2}}, 3)...)
	strange := slices.Concat(eight[:2], []api.Event{invoked(9, api.Op{Kind: 4})})
	strangeNine := slices.Concat(nine, []api.Event{invoked(9, api.Op{Kind: 4})})
	noKind := []api.Event{invoked(0, api.Op{Kind: 10})}
	badNine := slices.Concat(strangeNine, []api.Event{returned(63, api.Op{Kind: 1}, api.Ret{})})
	long := make([]api.Event, event.MaxEvents+1)
	for at := range long {
		long[at] = api.Event{Thread: 0, Return: at%2 == 1, Op: api.Op{Kind: 1}}
	}
	bad := vals(1, 2)
	bad.Pairs = []api.Pair{{Key: 1}, {Key: 1}}
	for _, thing := range []int{search.Register, search.Counter, search.Stack, search.Queue, search.Map} {
		good := starts(thing)[0]
		wantRefused(t, "nine pending", thing, good, nine, api.ErrBig)
		wantRefused(t, "nine in a row", thing, good, longRow, api.ErrBig)
		wantRefused(t, "as long as a history may be", thing, good, long[:event.MaxEvents], api.ErrBig)
		wantRefused(t, "too long a history", thing, good, long, api.ErrForm)
		wantRefused(t, "a return ahead of all", thing, good, longRow[1:], api.ErrForm)
		wantRefused(t, "a kind of nobody", thing, good, noKind, api.ErrForm)
		wantRefused(t, "out of form, too many, and a strange kind", thing, good, badNine, api.ErrForm)
		wantRefused(t, "a bad state", thing, bad, nine, api.ErrForm)
		wantRefused(t, "a bad state, and a strange kind", thing, bad, strange, api.ErrForm)
		if thing != search.Map {
			wantRefused(t, "a strange kind", thing, good, strange, api.ErrKind)
			wantRefused(t, "a strange kind of too many", thing, good, strangeNine, api.ErrKind)
		}
		if _, e := search.Count(thing, good, eight); e != api.OK {
			t.Errorf("Count(%d, ..) of eight: %d", thing, e)
		}
	}
	for _, thing := range []int{math.MinInt, -1, 0, 6, math.MaxInt} {
		wantRefused(t, "no thing", thing, bad, badNine, api.ErrKind)
		wantRefused(t, "no thing", thing, vals(1), eight, api.ErrKind)
	}
	exchange := api.Op{Kind: 3}
	wantRefused(t, "a counter's exchange", search.Counter, vals(1), []api.Event{invoked(0, api.Op{Kind: 1}), invoked(1, exchange), returned(1, exchange, api.Ret{})}, api.ErrKind)
}

// TestHistoriesWithoutOverlap: the one order is that in which they stand.
func TestHistoriesWithoutOverlap(t *testing.T) { // P7.3
	r := rand.New(rand.NewSource(11))
	for range 200 {
		for _, thing := range all {
			s := starts(thing)[r.Intn(len(starts(thing)))]
			words := alphabet(thing)
			ops := make([]api.Op, r.Intn(search.MaxSearch+1))
			order := make([]int, len(ops))
			end := s
			for i := range ops {
				order[i], ops[i] = i, words[r.Intn(len(words))]
				end, _ = done(thing, end, ops[i])
			}
			h := row(thing, s, ops...)
			wantOrders(t, thing, s, h, [][]int{order}, []search.State{end})
			if len(h) > 0 {
				h[2*r.Intn(len(ops))+1].Ret.Key = 99
				wantOrders(t, thing, s, h, nil, nil)
			}
		}
	}
}

// TestWhatMakesItEasier: without its last return, or with an invocation more, a history is right in each order in which it was.
func TestWhatMakesItEasier(t *testing.T) { // P7.4
	r := rand.New(rand.NewSource(12))
	for range 200 {
		for _, thing := range all {
			s := starts(thing)[r.Intn(len(starts(thing)))]
			h := someHistory(r, thing, s, 3, 1+r.Intn(4))
			orders, _ := found(thing, s, h)
			more := slices.Concat(h, []api.Event{invoked(9, alphabet(thing)[0])})
			for _, order := range orders {
				wantIs(t, thing, s, more, order, true)
				if h[len(h)-1].Return {
					wantIs(t, thing, s, h[:len(h)-1], order, true)
				}
			}
		}
	}
}
