package free_test

import (
	"math/rand"
	"slices"
	"testing"

	"larch/api"
	"larch/free"
)

func wantSum(t *testing.T, n int, adds []int) {
	t.Helper()
	want := 0
	for range n {
		for _, d := range adds {
			want += d
		}
	}
	if got, e := free.Sum(n, adds); got != want || e != api.OK {
		t.Errorf("Sum(%d, %v) = %d, %d, want %d", n, adds, got, e, want)
	}
}

func TestSum(t *testing.T) { // P27.1
	for _, c := range []struct {
		n    int
		adds []int
		want int
	}{
		{3, ints(1, 2), 9}, {2, ints(most), -2}, {1, ints(most, 1), least}, {2, ints(least), 0}, {3, ints(least), least},
		{1, nil, 0}, {64, ints(), 0}, {64, ints(1), 64}, {5, ints(0, 0, 0), 0}, {7, ints(-4, 3), -7}, {3, ints(most, most), -6},
		{64, ones(api.MaxOps), 64 * api.MaxOps}, {1, ints(-5), -5}, {64, ints(1 << 58), 0}, {63, ints(1 << 58), -1 << 58},
	} {
		if got, e := free.Sum(c.n, c.adds); got != c.want || e != api.OK {
			t.Errorf("Sum(%d, %v) = %d, %d, want %d", c.n, c.adds, got, e, c.want)
		}
	}
}

func TestSumByChance(t *testing.T) { // P27.1
	r := rand.New(rand.NewSource(27))
	for range 300 {
		adds := make([]int, r.Intn(40))
		for i := range adds {
			adds[i] = int(r.Uint64() >> r.Intn(64))
		}
		wantSum(t, 1+r.Intn(api.MaxThreads), adds)
	}
	adds := make([]int, api.MaxOps)
	for i := range adds {
		adds[i] = int(r.Uint64())
	}
	wantSum(t, api.MaxThreads, adds)
}

func TestFirst(t *testing.T) { // P27.1
	for _, n := range []int{1, 2, 8, 63, 64} {
		for _, cells := range []int{0, 1, 2, 3, 64, 65, 999, 1000} {
			for range 5 {
				if got, e := free.First(n, cells); !slices.Equal(got, ones(cells)) || e != api.OK {
					t.Fatalf("First(%d, %d) = %v, %d", n, cells, got, e)
				}
			}
		}
	}
}

// shares: how many workers, and how many numbers each has; up to 20000 in all.
func shares() [][2]int {
	return [][2]int{{1, 0}, {64, 0}, {1, 1}, {1, 2}, {2, 1}, {2, 2}, {2, 3}, {3, 7}, {64, 1}, {64, 2}, {8, 200}, {1, 1000}, {20, 1000}, {50, 400}, {64, 312}}
}

func TestStack(t *testing.T) { // P27.1
	for _, s := range shares() {
		for range 5 {
			popped, left, none, e := free.Stack(s[0], s[1])
			if !slices.Equal(popped, upTo(s[0]*s[1])) || len(left) != 0 || none != 0 || e != api.OK {
				t.Fatalf("Stack(%d, %d) = %v, %v, %d, %d", s[0], s[1], popped, left, none, e)
			}
		}
	}
}

func TestQueue(t *testing.T) { // P27.1
	for _, s := range shares() {
		for range 5 {
			if taken, inOrder, e := free.Queue(s[0], s[1]); !slices.Equal(taken, upTo(s[0]*s[1])) || !inOrder || e != api.OK {
				t.Fatalf("Queue(%d, %d) = %v, %v, %d", s[0], s[1], taken, inOrder, e)
			}
		}
	}
}

// TestPlainManyTimes: few numbers and many threads, over and over: the workers come between each other in other ways each time.
func TestPlainManyTimes(t *testing.T) { // P27.1
	for i := range 400 {
		n, each := 1+i%64, i%11
		if taken, inOrder, e := free.Queue(n, each); !slices.Equal(taken, upTo(n*each)) || !inOrder || e != api.OK {
			t.Fatalf("Queue(%d, %d) = %v, %v, %d", n, each, taken, inOrder, e)
		}
		if popped, left, none, e := free.Stack(n, each); !slices.Equal(popped, upTo(n*each)) || len(left) != 0 || none != 0 || e != api.OK {
			t.Fatalf("Stack(%d, %d) = %v, %v, %d, %d", n, each, popped, left, none, e)
		}
		if won, e := free.First(n, each); !slices.Equal(won, ones(each)) || e != api.OK {
			t.Fatalf("First(%d, %d) = %v, %d", n, each, won, e)
		}
		wantSum(t, n, upTo(each))
	}
}
