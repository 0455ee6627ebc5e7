package snap_test

import (
	"math"
	"slices"
	"testing"

	"larch/api"
	"larch/snap"
)

// wantFree: Free of numbers that aren't refused, again and again.
func wantFree(t *testing.T, writers, writes, readers, looks int) {
	t.Helper()
	regs := slices.Repeat([]int{writes}, writers)
	for range 3 {
		f, e := snap.Free(writers, writes, readers, looks)
		if e != api.OK || f.Snaps != writers*writes+readers*looks || !f.Chain || !f.Rise || !f.Own || !slices.Equal(f.Regs, regs) {
			t.Errorf("Free(%d, %d, %d, %d) = %v, %d", writers, writes, readers, looks, f, e)
		}
	}
}

func TestFreeByExamples(t *testing.T) { // P11.6
	wantFree(t, 2, 3, 1, 4)
	wantFree(t, 0, 5, 1, 2)
}

func TestFreeOfWritersAndReaders(t *testing.T) { // P11.6
	for _, writers := range []int{0, 1, 2, 5, 16} {
		for _, readers := range []int{0, 1, 3, 16} {
			wantFree(t, writers, 60, readers, 80)
			wantFree(t, writers, 0, readers, 7)
			wantFree(t, writers, 7, readers, 0)
		}
	}
}

func TestFreeAtTheLimits(t *testing.T) { // P11.6
	for _, c := range [][4]int{
		{64, 78, 0, 0}, {64, 78, 0, math.MaxInt}, {1, 5000, 0, 0}, {0, math.MaxInt, 1, 5000}, {0, 0, 64, 78}, {1, 2500, 1, 2500}, {63, 50, 1, 1850}, {1, 1850, 63, 50}, {32, 100, 32, 56}, {64, 0, 0, 0},
	} {
		wantFree(t, c[0], c[1], c[2], c[3])
	}
}

func TestFreeThatIsRefused(t *testing.T) { // P11.6
	const least, greatest = math.MinInt, math.MaxInt
	for _, c := range []struct {
		writers, writes, readers, looks int
		e                               api.Errno
	}{
		{-1, 0, 0, 0, api.ErrArg}, {0, -1, 0, 0, api.ErrArg}, {0, 0, -1, 0, api.ErrArg}, {0, 0, 0, -1, api.ErrArg}, {least, least, least, least, api.ErrArg},
		{65, -1, 0, 0, api.ErrArg}, {0, 0, 65, -1, api.ErrArg}, {-1, 0, 65, 0, api.ErrArg}, {1, 5001, -1, 0, api.ErrArg}, {greatest, greatest, least, 0, api.ErrArg},
		{65, 0, 0, 0, api.ErrBig}, {0, 0, 65, 0, api.ErrBig}, {64, 0, 1, 0, api.ErrBig}, {1, 0, 64, 0, api.ErrBig}, {33, 1, 32, 1, api.ErrBig},
		{greatest, 0, 0, 0, api.ErrBig}, {0, 0, greatest, 0, api.ErrBig}, {1, 0, greatest, 0, api.ErrBig}, {greatest, 0, greatest, 0, api.ErrBig},
		{1, 5001, 0, 0, api.ErrBig}, {0, 0, 1, 5001, api.ErrBig}, {1, 2500, 1, 2501, api.ErrBig}, {64, 79, 0, 0, api.ErrBig}, {2, 2501, 0, 0, api.ErrBig}, {50, 100, 1, 1, api.ErrBig},
		{1, greatest, 0, 0, api.ErrBig}, {0, 0, 1, greatest, api.ErrBig}, {2, greatest/2 + 1, 0, 0, api.ErrBig}, {64, greatest/32 + 1, 0, 0, api.ErrBig}, {1, greatest, 1, greatest, api.ErrBig}, {4, greatest/4 + 1, 4, 5, api.ErrBig},
	} {
		f, e := snap.Free(c.writers, c.writes, c.readers, c.looks)
		if e != c.e || f.Snaps != 0 || f.Chain || f.Rise || f.Own || f.Regs != nil {
			t.Errorf("Free(%d, %d, %d, %d) = %v, %d, want %d", c.writers, c.writes, c.readers, c.looks, f, e, c.e)
		}
	}
}

// wantTrades: all numbers, sorted.
func wantTrades(t *testing.T, first int, lists ...[]int) {
	t.Helper()
	want := append(slices.Concat(lists...), first)
	slices.Sort(want)
	for range 3 {
		if got, e := snap.Trades(first, lists); !slices.Equal(got, want) || e != api.OK {
			t.Errorf("Trades(%d, %v) = %v, %d", first, lists, got, e)
		}
	}
}

func TestTrades(t *testing.T) { // P11.6
	wantTrades(t, 9, []int{2, 3}, []int{2}) // the example
	wantTrades(t, 9)
	wantTrades(t, 9, nil, []int{}, nil)
	wantTrades(t, math.MaxInt, []int{math.MinInt, 0}, []int{-1, math.MaxInt})
	wantTrades(t, 0, slices.Repeat([]int{1, 2}, 1250), slices.Repeat([]int{2, 1}, 1250))
	wantTrades(t, -3, slices.Repeat([]int{-3}, 5000))
	crowd := make([][]int, api.MaxThreads)
	for i := range crowd {
		for n := range 78 {
			crowd[i] = append(crowd[i], 1000*(n%7)-i)
		}
	}
	wantTrades(t, 5, crowd...)
}

func TestTradesThatAreRefused(t *testing.T) { // P11.6
	for name, lists := range map[string][][]int{
		"65 lists":                make([][]int, 65),
		"5001 numbers":            {make([]int, 5001)},
		"5001 numbers in three":   {make([]int, 2500), nil, make([]int, 2501)},
		"65 lists, 5200 numbers":  slices.Repeat([][]int{make([]int, 80)}, 65),
		"64 lists of 79":          slices.Repeat([][]int{make([]int, 79)}, 64),
		"a great many in a list":  {make([]int, 1<<20)},
		"a great many empty ones": make([][]int, 1<<20),
	} {
		if got, e := snap.Trades(1, lists); got != nil || e != api.ErrBig {
			t.Errorf("%s: %v, %d", name, got, e)
		}
	}
}
