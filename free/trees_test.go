package free_test

import (
	"math/rand"
	"slices"
	"testing"

	"larch/api"
	"larch/free"
)

func wantApart(t *testing.T, scripts [][]api.Op) {
	t.Helper()
	want, left := modelled(t, scripts)
	answers, pairs, e := free.Apart(scripts)
	if e != api.OK || !slices.EqualFunc(answers, want, sameRets) || !slices.Equal(pairs, left) {
		t.Fatalf("Apart(%v) = %v, %v, %d, want %v, %v", scripts, answers, pairs, e, want, left)
	}
}

func TestApart(t *testing.T) { // P27.2
	first, second := ops(put(1, 10), get(1)), ops(del(2), put(2, 20))
	answers, pairs, e := free.Apart(workers(first, second))
	if want := [][]api.Ret{{{}, {Ok: true, Val: 10}}, {{}, {}}}; e != api.OK || !slices.EqualFunc(answers, want, sameRets) || !slices.Equal(pairs, []api.Pair{{Key: 1, Val: 10}, {Key: 2, Val: 20}}) {
		t.Errorf("the chapter's example: %v, %v, %d", answers, pairs, e)
	}
	all := ops(get(7), del(7), ifAbsent(7, 1), ifAbsent(7, 2), get(7), put(7, 3), ifAbsent(7, 4), del(7), del(7), put(7, 5), put(7, 5), get(7))
	for _, scripts := range [][][]api.Op{
		workers(nil), workers(nil, nil, ops()), workers(first), workers(nil, first, nil, second), workers(all), workers(all, first, second),
		workers(ops(put(most, 1), del(most), put(most, 2)), ops(put(least, 3), ifAbsent(least, 4), get(least)), ops(put(0, least), get(0)), ops(put(most-1, most), put(least+1, 0))),
		workers(ops(put(1, 1), del(1)), ops(put(2, 2), del(2)), ops(put(3, 3), del(3))),
		manyScripts(64),
	} {
		for range 20 {
			wantApart(t, scripts)
		}
	}
}

// apartByChance: the workers' keys lie among each other, so that all of them change the same places of the tree.
func apartByChance(r *rand.Rand, n, each, keys int) [][]api.Op {
	scripts := make([][]api.Op, n)
	for worker := range scripts {
		for range each {
			scripts[worker] = append(scripts[worker], api.Op{Kind: 1 + r.Intn(4), Key: worker + n*(r.Intn(keys)-keys/2), Val: r.Intn(1000), Hi: r.Intn(9)})
		}
	}
	return scripts
}

func TestApartByChance(t *testing.T) { // P27.2
	r := rand.New(rand.NewSource(3))
	for range 400 {
		wantApart(t, apartByChance(r, 1+r.Intn(64), r.Intn(40), 1+r.Intn(8)))
	}
	wantApart(t, apartByChance(r, 64, 1000, 30))
}

// TestApartOfMost: as many pairs as there can be, which are more than a table can hold.
func TestApartOfMost(t *testing.T) { // P27.2
	scripts := make([][]api.Op, api.MaxThreads)
	for worker := range scripts {
		for i := range api.MaxOps {
			scripts[worker] = append(scripts[worker], put(i*api.MaxThreads+worker, i))
		}
	}
	wantApart(t, scripts)
}

func wantRush(t *testing.T, n int, keys []int) {
	t.Helper()
	want := firsts(keys)
	came, went, pairs, e := free.Rush(n, keys)
	if e != api.OK || !slices.Equal(came, want) || !slices.Equal(went, want) || len(pairs) != 0 {
		t.Fatalf("Rush(%d, %v) = %v, %v, %v, %d", n, keys, came, went, pairs, e)
	}
}

func TestRush(t *testing.T) { // P27.2
	came, went, pairs, e := free.Rush(4, ints(5, 7, 5))
	if want := ints(1, 1, 0); e != api.OK || !slices.Equal(came, want) || !slices.Equal(went, want) || len(pairs) != 0 {
		t.Errorf("the chapter's example: %v, %v, %v, %d", came, went, pairs, e)
	}
	for _, n := range []int{1, 2, 8, 64} {
		for _, keys := range [][]int{nil, {}, {0}, {5, 5, 5}, {most, least, most, 0, least}, {3, 2, 1, 1, 2, 3}, upTo(20)} {
			for range 10 {
				wantRush(t, n, keys)
			}
		}
	}
	wantRush(t, 64, upTo(api.MaxOps))
	wantRush(t, 64, slices.Repeat(ints(9, -9), api.MaxOps/2))
}

// listByChance: up to so many keys, of which many stand twice.
func listByChance(r *rand.Rand, most int) []int {
	keys, span := make([]int, r.Intn(most+1)), 1+r.Intn(most)
	for i := range keys {
		keys[i] = r.Intn(span) - span/2
	}
	return keys
}

func TestRushByChance(t *testing.T) { // P27.2
	r := rand.New(rand.NewSource(4))
	for range 400 {
		wantRush(t, 1+r.Intn(64), listByChance(r, 50))
	}
}

func wantGrow(t *testing.T, n, m, ranges int) {
	t.Helper()
	if rose, pairs, e := free.Grow(n, m, ranges); !rose || !slices.Equal(pairs, row(m)) || e != api.OK {
		t.Fatalf("Grow(%d, %d, %d) = %v, %v, %d", n, m, ranges, rose, pairs, e)
	}
}

func TestGrow(t *testing.T) { // P27.3
	for _, c := range [][3]int{{3, 10, 5}, {1, 0, 0}, {64, 0, 0}, {2, 0, 9}, {2, 9, 0}, {64, 300, 0}, {1, 1, 1}, {1, 1000, 3}, {64, 1, 30}, {64, 60, 20}, {7, 1000, 40}} {
		for range 3 {
			wantGrow(t, c[0], c[1], c[2])
		}
	}
	wantGrow(t, 2, 20, api.MaxOps)
	for i := range 300 {
		wantGrow(t, 1+i%16, i%40, i%7)
	}
}

func wantShape(t *testing.T, n int, keys, drops []int) {
	t.Helper()
	left, tidy, e := free.Shape(n, keys, drops)
	if !slices.Equal(left, without(keys, drops)) || !tidy || e != api.OK {
		t.Fatalf("Shape(%d, %v, %v) = %v, %v, %d", n, keys, drops, left, tidy, e)
	}
}

func TestShape(t *testing.T) { // P27.4
	for _, n := range []int{1, 2, 4, 16, 64} {
		for _, c := range []struct{ keys, drops, want []int }{
			{nil, nil, nil}, {ints(), ints(1, 2), nil}, {ints(3, 1, 5), ints(3), ints(1, 5)}, {ints(3, 1, 5), nil, ints(1, 3, 5)}, {ints(3, 1, 5), ints(5, 1, 3), nil},
			{ints(3, 1, 5), ints(4, 9, -1), ints(1, 3, 5)}, {ints(2, 2, 2), ints(2, 2), nil}, {ints(2, 7, 2, 7), ints(7, 8, 7), ints(2)}, {ints(most, least, 0), ints(0), ints(least, most)},
			{ints(9, 8, 7, 6, 5, 4, 3, 2, 1, 3), ints(3, 8, 100), ints(1, 2, 4, 5, 6, 7, 9)}, {ints(least, most), ints(most, least), nil},
		} {
			for range 5 {
				if left, tidy, e := free.Shape(n, c.keys, c.drops); !slices.Equal(left, c.want) || !tidy || e != api.OK {
					t.Fatalf("Shape(%d, %v, %v) = %v, %v, %d", n, c.keys, c.drops, left, tidy, e)
				}
			}
		}
	}
}

func TestShapeByChance(t *testing.T) { // P27.4
	r := rand.New(rand.NewSource(5))
	for range 400 {
		wantShape(t, 1+r.Intn(64), listByChance(r, 80), listByChance(r, 80))
	}
	falling := upTo(api.MaxOps)
	slices.Reverse(falling)
	wantShape(t, 8, upTo(api.MaxOps), nil)
	wantShape(t, 64, falling, upTo(api.MaxOps-3))
	wantShape(t, 64, upTo(api.MaxOps), falling)
	wantShape(t, 64, listByChance(r, api.MaxOps), listByChance(r, api.MaxOps))
}
