package event_test

import (
	"math"
	"math/rand"
	"slices"
	"testing"

	"larch/api"
	"larch/event"
)

func TestOrderByExamples(t *testing.T) { // P5.2, P5.4
	for _, c := range []struct {
		name          string
		h             []api.Event
		ahead, behind bool
		width, orders int
		row           bool
		pending       []int
	}{
		{"two that overlap", exampleOne(), false, false, 2, 2, false, nil},
		{"one behind the other, pending", exampleTwo(), true, false, 1, 1, true, []int{1}},
		{"both pending", exampleOne()[:2], false, false, 2, 1, false, []int{0, 1}},
		{"one pending from the beginning", exampleOne()[:3], false, false, 2, 1, false, []int{0}},
	} {
		ahead, e1 := event.Ahead(c.h, 0, 1)
		behind, e2 := event.Ahead(c.h, 1, 0)
		width, e3 := event.Width(c.h)
		orders, e4 := event.Orders(c.h)
		row, e5 := event.Row(c.h)
		pending, e6 := event.Pending(c.h)
		if ahead != c.ahead || behind != c.behind || width != c.width || orders != c.orders || row != c.row || !slices.Equal(pending, c.pending) {
			t.Errorf("%s: Ahead %v, %v; Width %d; Orders %d; Row %v; Pending %v", c.name, ahead, behind, width, orders, row, pending)
		}
		for _, e := range []api.Errno{e1, e2, e3, e4, e5, e6} {
			wantOK(t, c.name, e)
		}
	}
}

func TestOrderOfNoEvents(t *testing.T) { // P5.2, P5.4
	for _, h := range [][]api.Event{nil, {}} {
		width, e1 := event.Width(h)
		row, e2 := event.Row(h)
		pending, e3 := event.Pending(h)
		orders, e4 := event.Orders(h)
		fit, e5 := event.Fits(h, nil)
		none, e6 := event.Fits(h, []int{0})
		if width != 0 || !row || len(pending) != 0 || orders != 1 || !fit || none || e1+e2+e3+e4+e5+e6 != 0 {
			t.Errorf("of no events: Width %d, Row %v, Pending %v, Orders %d, Fits %v and %v", width, row, pending, orders, fit, none)
		}
		if is, e := event.Ahead(h, 0, 0); is || e != api.ErrArg {
			t.Errorf("of no events: Ahead = %v, %d", is, e)
		}
	}
}

func TestAheadRefuses(t *testing.T) { // P5.2
	for _, h := range [][]api.Event{exampleOne(), exampleTwo()} {
		for _, wrong := range []int{-1, 2, 3, math.MinInt, math.MaxInt} {
			for _, right := range []int{0, 1, wrong} {
				if is, e := event.Ahead(h, wrong, right); is || e != api.ErrArg {
					t.Errorf("Ahead(%d, %d) = %v, %d", wrong, right, is, e)
				}
				if is, e := event.Ahead(h, right, wrong); is || e != api.ErrArg {
					t.Errorf("Ahead(%d, %d) = %v, %d", right, wrong, is, e)
				}
			}
		}
	}
}

func TestOrderByTheWords(t *testing.T) { // P5.2
	eachHistory(func(h []api.Event) {
		calls := callsOf(h)
		var want []int
		for i, c := range calls {
			if c.To == -1 {
				want = append(want, i)
			}
			for j := range calls {
				if is, e := event.Ahead(h, i, j); e != api.OK || is != isAhead(calls, i, j) {
					t.Errorf("of %v: Ahead(%d, %d) = %v, %d", h, i, j, is, e)
				}
			}
		}
		if got, e := event.Pending(h); e != api.OK || !slices.Equal(got, want) {
			t.Errorf("Pending(%v) = %v, %d, want %v", h, got, e, want)
		}
		width, e := event.Width(h)
		if e != api.OK || width != widthOf(h) {
			t.Errorf("Width(%v) = %d, %d, want %d", h, width, e, widthOf(h))
		}
		if row, e := event.Row(h); e != api.OK || row != (width <= 1) {
			t.Errorf("Row(%v) = %v, %d; Width is %d", h, row, e, width)
		}
	})
}

func TestAheadIsAnOrder(t *testing.T) { // P5.2
	r := rand.New(rand.NewSource(3))
	for range 150 {
		h := someHistory(r, 1+r.Intn(4), 2+r.Intn(17))
		calls := callsOf(h)
		n := len(calls)
		ahead := make([][]bool, n)
		for i := range n {
			for j := range n {
				is, e := event.Ahead(h, i, j)
				wantOK(t, "Ahead", e)
				ahead[i] = append(ahead[i], is)
			}
		}
		for i := range n {
			if ahead[i][i] {
				t.Errorf("of %v: %d is ahead of itself", h, i)
			}
			for j := range n {
				if i < j && calls[i].Thread == calls[j].Thread && (!ahead[i][j] || ahead[j][i]) {
					t.Errorf("of %v: %d and %d are of one thread", h, i, j)
				}
				if calls[i].To == -1 && ahead[i][j] {
					t.Errorf("of %v: %d is pending and ahead of %d", h, i, j)
				}
				for k := range n {
					if ahead[i][j] && ahead[j][k] && !ahead[i][k] {
						t.Errorf("of %v: %d is ahead of %d, that of %d", h, i, j, k)
					}
				}
			}
		}
	}
}

func TestWidthOfAllThreads(t *testing.T) { // P5.2
	var h []api.Event
	for thread := range 64 {
		h = append(h, invoked(thread, get5))
		if width, e := event.Width(h); width != thread+1 || e != api.OK {
			t.Errorf("Width of %d = %d, %d", thread+1, width, e)
		}
	}
	for thread := range 64 {
		h = append(h, returned(thread, get5, api.Ret{}))
		if width, e := event.Width(h); width != 64 || e != api.OK {
			t.Errorf("Width with %d returned = %d, %d", thread+1, width, e)
		}
	}
}

func TestFitsByExamples(t *testing.T) { // P5.4
	for _, c := range []struct {
		h     []api.Event
		order []int
		want  bool
	}{
		{exampleTwo(), []int{0}, true}, {exampleTwo(), []int{0, 1}, true},
		{exampleTwo(), []int{1, 0}, false}, {exampleTwo(), []int{1}, false}, {exampleTwo(), nil, false}, {exampleTwo(), []int{}, false},
		{exampleTwo(), []int{0, 0}, false}, {exampleTwo(), []int{0, 2}, false}, {exampleTwo(), []int{-1, 0}, false}, {exampleTwo(), []int{0, 1, 1}, false},
		{exampleTwo(), []int{0, math.MaxInt}, false}, {exampleTwo(), []int{math.MinInt, 0}, false},
		{exampleOne(), []int{0, 1}, true}, {exampleOne(), []int{1, 0}, true}, {exampleOne(), []int{0}, false}, {exampleOne(), []int{1}, false},
		{exampleOne()[:2], nil, true}, {exampleOne()[:2], []int{1}, true}, {exampleOne()[:2], []int{1, 0}, true}, {exampleOne()[:2], []int{2}, false},
	} {
		if fit, e := event.Fits(c.h, c.order); fit != c.want || e != api.OK {
			t.Errorf("Fits(%v, %v) = %v, %d", c.h, c.order, fit, e)
		}
	}
}

func TestFitsAndOrdersByTheWords(t *testing.T) { // P5.4
	r := rand.New(rand.NewSource(4))
	for range 400 {
		h := someHistory(r, 1+r.Intn(5), r.Intn(10))
		calls := callsOf(h)
		rows := 0
		eachOrder(len(calls), len(calls), func(order []int) {
			want := fits(calls, order)
			if fit, e := event.Fits(h, order); e != api.OK || fit != want {
				t.Errorf("Fits(%v, %v) = %v, %d, want %v", h, order, fit, e, want)
			}
			if want && !slices.ContainsFunc(order, func(i int) bool { return calls[i].To == -1 }) {
				rows++
			}
		})
		if got, e := event.Orders(h); e != api.OK || got != rows {
			t.Errorf("Orders(%v) = %d, %d, want %d", h, got, e, rows)
		}
	}
}

func TestFitsOfSpoiltOrders(t *testing.T) { // P5.4
	r := rand.New(rand.NewSource(6))
	good := 0
	for range 3000 {
		h := someHistory(r, 1+r.Intn(8), 1+r.Intn(30))
		calls := callsOf(h)
		order := make([]int, len(calls))
		for i := range order {
			order[i] = i
		}
		for range r.Intn(3) {
			i, j := r.Intn(len(order)), r.Intn(len(order))
			order[i], order[j] = order[j], order[i]
		}
		if r.Intn(4) == 0 {
			order[r.Intn(len(order))] = r.Intn(len(order)+2) - 1
		}
		if r.Intn(4) == 0 {
			order = slices.Delete(order, 0, 1)
		}
		want := fits(calls, order)
		if want {
			good++
		}
		if fit, e := event.Fits(h, order); e != api.OK || fit != want {
			t.Errorf("Fits(%v, %v) = %v, %d, want %v", h, order, fit, e, want)
		}
	}
	if good < 300 || good > 2700 {
		t.Errorf("%d of 3000 orders fit", good)
	}
}

func TestNumbersInTurnFit(t *testing.T) { // P5.4
	look := func(h []api.Event) {
		order := make([]int, len(callsOf(h)))
		for i := range order {
			order[i] = i
		}
		if fit, e := event.Fits(h, order); e != api.OK || !fit {
			t.Errorf("Fits(%v, %v) = %v, %d", h, order, fit, e)
		}
	}
	eachHistory(look)
	look(rowOf(2001))
}

func TestFitsOfLongLists(t *testing.T) { // P5.4
	h := rowOf(100000)
	order := make([]int, 50000)
	for i := range order {
		order[i] = i
	}
	if fit, e := event.Fits(h, order); !fit || e != api.OK {
		t.Errorf("Fits of 50000 in turn = %v, %d", fit, e)
	}
	if fit, e := event.Fits(h, order[:49999]); fit || e != api.OK {
		t.Errorf("Fits without the last one = %v, %d", fit, e)
	}
	if fit, e := event.Fits(h, make([]int, 1000000)); fit || e != api.OK { // no limit is named for it
		t.Errorf("Fits of 1000000 times the first one = %v, %d", fit, e)
	}
	order[0], order[49999] = order[49999], order[0]
	if fit, e := event.Fits(h, order); fit || e != api.OK {
		t.Errorf("Fits of 50000, two exchanged = %v, %d", fit, e)
	}
}

// crowd: so many operations that are all under way at once; so many of them return.
func crowd(invocations, returns int) []api.Event {
	var h []api.Event
	for thread := range invocations {
		h = append(h, invoked(thread, get5))
	}
	for thread := range returns {
		h = append(h, returned(thread, get5, api.Ret{}))
	}
	return h
}

func TestOrdersAtTheLimit(t *testing.T) { // P5.4
	factorial := 1
	for n := range 17 {
		factorial *= max(n, 1)
		if got, e := event.Orders(crowd(64, n)); got != factorial || e != api.OK {
			t.Errorf("Orders of %d = %d, %d, want %d", n, got, e, factorial)
		}
		if got, e := event.Orders(rowOf(2*n + 1)); got != 1 || e != api.OK {
			t.Errorf("Orders of %d in a row = %d, %d", n, got, e)
		}
	}
	for _, h := range [][]api.Event{crowd(17, 17), crowd(64, 64), rowOf(34), rowOf(100000)} {
		if got, e := event.Orders(h); got != 0 || e != api.ErrBig {
			t.Errorf("Orders of more than 16 = %d, %d", got, e)
		}
	}
}

func TestOneOrderJustIfAllAreOrdered(t *testing.T) { // P5.4
	eachHistory(func(h []api.Event) {
		orders, e := event.Orders(h)
		if e != api.OK {
			return
		}
		loose, calls := false, callsOf(h)
		for i, c := range calls {
			for j := range i {
				both := c.To != -1 && calls[j].To != -1
				loose = loose || both && !isAhead(calls, i, j) && !isAhead(calls, j, i)
			}
		}
		if (orders == 1) == loose || orders < 1 {
			t.Errorf("Orders(%v) = %d", h, orders)
		}
	})
}
