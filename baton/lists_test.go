package baton_test

import (
	"math"
	"math/big"
	"slices"
	"testing"

	"larch/api"
	"larch/baton"
)

func TestRobin(t *testing.T) { // P4.3
	for _, c := range []struct {
		n, times int
		want     []int
	}{{3, 2, []int{0, 1, 2, 0, 1, 2}}, {1, 3, []int{0, 0, 0}}, {5, 0, nil}, {4, 1, []int{0, 1, 2, 3}}} {
		if got, e := baton.Robin(c.n, c.times); e != api.OK || !slices.Equal(got, c.want) {
			t.Errorf("Robin(%d, %d) = %v, %d", c.n, c.times, got, e)
		}
	}
	for _, c := range []struct{ n, times int }{{1, 1000000}, {64, 15625}, {3, 333333}} {
		got, e := baton.Robin(c.n, c.times)
		if e != api.OK || len(got) != c.n*c.times || got[len(got)-1] != c.n-1 {
			t.Errorf("Robin(%d, %d): %d picks, error %d", c.n, c.times, len(got), e)
		}
	}
	for _, c := range []struct {
		n, times int
		want     api.Errno
	}{
		{0, 1, api.ErrArg}, {-1, 1, api.ErrArg}, {65, 1, api.ErrArg}, {1, -1, api.ErrArg}, {math.MinInt, math.MaxInt, api.ErrArg}, {65, math.MaxInt, api.ErrArg}, {0, 0, api.ErrArg},
		{1, 1000001, api.ErrBig}, {64, 15626, api.ErrBig}, {3, 333334, api.ErrBig}, {64, math.MaxInt, api.ErrBig}, {2, math.MaxInt/2 + 1, api.ErrBig}, {64, 1 << 58, api.ErrBig},
	} {
		if got, e := baton.Robin(c.n, c.times); e != c.want || len(got) != 0 {
			t.Errorf("Robin(%d, %d): %d picks, error %d, want %d", c.n, c.times, len(got), e, c.want)
		}
	}
}

func TestThin(t *testing.T) { // P4.3
	for _, c := range []struct {
		steps []api.Step
		want  []int
	}{
		{nil, nil},
		{[]api.Step{nothing(4), {Worker: 2, Kind: 0}}, []int{2}},
		{[]api.Step{nothing(1), nothing(1)}, nil},
		{[]api.Step{did(3, api.Or), nothing(0), last(-9, 44), did(3, -2), last(7, -1)}, []int{3, -9, 3}},
	} {
		if got := baton.Thin(c.steps); !slices.Equal(got, c.want) {
			t.Errorf("Thin(%v) = %v, want %v", c.steps, got, c.want)
		}
	}
}

// waysOf: the sum's factorial by those of the parts.
func waysOf(lens []int) *big.Int {
	sum := 0
	for _, n := range lens {
		sum += n
	}
	ways := new(big.Int).MulRange(1, int64(sum))
	for _, n := range lens {
		ways.Div(ways, new(big.Int).MulRange(1, int64(n)))
	}
	return ways
}

// eachLens calls look with all lists of at most length numbers from 0 to most.
func eachLens(length, most int, look func(lens []int)) {
	lists := [][]int{nil}
	for len(lists) > 0 {
		list := lists[0]
		lists = lists[1:]
		look(list)
		if len(list) < length {
			for n := range most + 1 {
				lists = append(lists, append(slices.Clone(list), n))
			}
		}
	}
}

func TestWays(t *testing.T) { // P4.3
	limit := big.NewInt(1000000)
	eachLens(4, 9, func(lens []int) {
		want, refused := waysOf(lens), api.OK
		if want.Cmp(limit) > 0 {
			want, refused = new(big.Int), api.ErrBig
		}
		if got, e := baton.Ways(lens); int64(got) != want.Int64() || e != refused {
			t.Errorf("Ways(%v) = %d, %d, want %v, %d", lens, got, e, want, refused)
		}
	})
}

func TestWaysAtTheEdges(t *testing.T) { // P4.3
	ones := make([]int, 64)
	ones[3], ones[63] = 1, 1
	for _, c := range []struct {
		lens []int
		want int
		e    api.Errno
	}{
		{nil, 1, api.OK}, {[]int{}, 1, api.OK}, {[]int{0, 0}, 1, api.OK}, {[]int{2, 2}, 6, api.OK}, {make([]int, 64), 1, api.OK}, {ones, 2, api.OK},
		{[]int{30, 30}, 0, api.ErrBig}, {[]int{8, 8}, 12870, api.OK},
		{[]int{999999, 1}, 1000000, api.OK}, {[]int{1, 999999}, 1000000, api.OK}, {[]int{1000000, 1}, 0, api.ErrBig}, {[]int{1, 0, 1000000}, 0, api.ErrBig},
		{[]int{1000000}, 1, api.OK}, {[]int{0, math.MaxInt, 0}, 1, api.OK}, {[]int{math.MaxInt, 1}, 0, api.ErrBig}, {[]int{math.MaxInt, math.MaxInt}, 0, api.ErrBig}, {[]int{math.MaxInt, math.MaxInt, 2}, 0, api.ErrBig},
		{[]int{-1}, 0, api.ErrArg}, {[]int{math.MinInt}, 0, api.ErrArg}, {make([]int, 65), 0, api.ErrArg},
		{[]int{30, 30, -1}, 0, api.ErrArg}, {slices.Repeat([]int{9}, 65), 0, api.ErrArg},
	} {
		if got, e := baton.Ways(c.lens); got != c.want || e != c.e {
			t.Errorf("Ways(%v) = %d, %d, want %d, %d", c.lens, got, e, c.want, c.e)
		}
	}
}

func TestWaysNeverGoRound(t *testing.T) { // P4.3
	for a := 12; a < 200; a++ { // 2704156 from the first on
		for b := 12; b < 200; b++ {
			if got, e := baton.Ways([]int{a, b}); got != 0 || e != api.ErrBig {
				t.Errorf("Ways(%d, %d) = %d, %d", a, b, got, e)
			}
		}
	}
}

func TestOrdersByExamples(t *testing.T) { // P4.3
	for _, c := range []struct {
		lens []int
		want [][]int
	}{
		{[]int{1, 2}, [][]int{{0, 1, 1}, {1, 0, 1}, {1, 1, 0}}},
		{nil, [][]int{{}}},
		{[]int{0, 0}, [][]int{{}}},
		{[]int{0, 2}, [][]int{{1, 1}}},
		{[]int{1, 1, 1}, [][]int{{0, 1, 2}, {0, 2, 1}, {1, 0, 2}, {1, 2, 0}, {2, 0, 1}, {2, 1, 0}}},
	} {
		if got, e := baton.Orders(c.lens); e != api.OK || !sameLists(got, c.want) {
			t.Errorf("Orders(%v) = %v, %d", c.lens, got, e)
		}
	}
}

func TestOrdersAreAllAndInOrder(t *testing.T) { // P4.3
	eachLens(4, 4, func(lens []int) {
		ways, _ := baton.Ways(lens)
		orders, e := baton.Orders(lens)
		if ways == 0 || ways > 10000 {
			if e != api.ErrBig || len(orders) != 0 {
				t.Errorf("Orders(%v): %d lists, error %d", lens, len(orders), e)
			}
			return
		}
		if e != api.OK || len(orders) != ways {
			t.Errorf("Orders(%v): %d lists, error %d, want %d", lens, len(orders), e, ways)
		}
		for i, order := range orders {
			counts := make([]int, len(lens))
			for _, worker := range order {
				counts[worker]++
			}
			if !slices.Equal(counts, lens) {
				t.Errorf("Orders(%v) has %v", lens, order)
			}
			if i > 0 && slices.Compare(orders[i-1], order) >= 0 {
				t.Errorf("Orders(%v): %v stands behind %v", lens, order, orders[i-1])
			}
		}
	})
}

func TestOrdersAtTheEdges(t *testing.T) { // P4.3
	for _, c := range []struct {
		lens []int
		want int
		e    api.Errno
	}{
		{[]int{1000}, 1, api.OK}, {[]int{999, 1}, 1000, api.OK}, {[]int{0, 1000, 0}, 1, api.OK}, {slices.Repeat([]int{0}, 64), 1, api.OK},
		{[]int{1001}, 0, api.ErrBig}, {[]int{1000, 1}, 0, api.ErrBig}, {[]int{math.MaxInt}, 0, api.ErrBig}, {[]int{math.MaxInt, 1}, 0, api.ErrBig},
		{[]int{8, 8}, 0, api.ErrBig}, {[]int{30, 30}, 0, api.ErrBig}, {[]int{1, 9999}, 0, api.ErrBig}, {[]int{140, 2}, 0, api.ErrBig}, {[]int{139, 2}, 9870, api.OK},
		{[]int{-1}, 0, api.ErrArg}, {make([]int, 65), 0, api.ErrArg}, {[]int{1001, -1}, 0, api.ErrArg}, {slices.Repeat([]int{9}, 65), 0, api.ErrArg},
	} {
		if got, e := baton.Orders(c.lens); len(got) != c.want || e != c.e {
			t.Errorf("Orders(%v): %d lists, error %d, want %d, %d", c.lens, len(got), e, c.want, c.e)
		}
	}
}

func TestListsAreNewMemory(t *testing.T) { // P4.6
	lens := []int{1, 2, 5}
	orders, _ := baton.Orders(lens[:2])
	_ = append(orders[0], 7, 7, 7, 7)
	clear(orders[0])
	if !sameLists(orders[1:], [][]int{{1, 0, 1}, {1, 1, 0}}) {
		t.Errorf("lists of one answer share memory: %v", orders)
	}
	if again, _ := baton.Orders(lens[:2]); !sameLists(again, [][]int{{0, 1, 1}, {1, 0, 1}, {1, 1, 0}}) {
		t.Errorf("at another call Orders = %v", again)
	}
	steps := []api.Step{nothing(1), did(2, 3), did(4, 5)}
	thin := baton.Thin(steps)
	clear(thin)
	baton.Ways(lens)
	if !slices.Equal(lens, []int{1, 2, 5}) || !slices.Equal(steps, []api.Step{nothing(1), did(2, 3), did(4, 5)}) {
		t.Errorf("what was handed in was changed: %v, %v", lens, steps)
	}
	robin, _ := baton.Robin(2, 2)
	clear(robin)
	if again, _ := baton.Robin(2, 2); !slices.Equal(again, []int{0, 1, 0, 1}) {
		t.Errorf("at another call Robin = %v", again)
	}
}
