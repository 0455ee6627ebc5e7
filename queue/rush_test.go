package queue_test

import (
	"math"
	"math/rand"
	"slices"
	"testing"

	"larch/api"
	"larch/queue"
)

// wantRush: the values are vals and all that was put, rising; and it was taken in order.
func wantRush(t *testing.T, vals []int, scripts [][]api.Op) {
	t.Helper()
	want := slices.Clone(vals)
	for _, op := range slices.Concat(scripts...) {
		if op.Kind == 1 {
			want = append(want, op.Val)
		}
	}
	slices.Sort(want)
	if got, is, e := queue.Rush(vals, scripts); e != api.OK || !is || !slices.Equal(got, want) {
		t.Fatalf("Rush(%v, %v) = %v, %v, %d, want %v", vals, scripts, got, is, e, want)
	}
}

func TestRushOfLittle(t *testing.T) { // P10.6
	wantRush(t, nil, workers(nil))
	wantRush(t, nil, workers(ops(take), nil, ops()))
	wantRush(t, []int{3, 1, 2}, workers(nil))
	wantRush(t, []int{3, 1, 2}, workers(ops(take, put(-1))))
	wantRush(t, []int{math.MaxInt, math.MinInt, 0}, workers(ops(put(math.MinInt), take, take), ops(put(math.MaxInt), take)))
	wantRush(t, []int{9}, workers(ops(put(9), take), ops(put(9), take), ops(take, take)))
}

func TestRushByChance(t *testing.T) { // P10.6
	r := rand.New(rand.NewSource(7))
	for range 300 {
		wantRush(t, someVals(r, 20), someScripts(r, 1+r.Intn(10), 60))
	}
}

// TestRushInACrowd: as many threads, operations and values as there may be, unlike values and equal ones.
func TestRushInACrowd(t *testing.T) { // P10.6
	vals := make([]int, api.MaxOps)
	for i := range vals {
		vals[i] = i * i % 997
	}
	for _, few := range []int{1, 5, 1 << 20} {
		crowd := make([][]api.Op, api.MaxThreads)
		for i := range crowd {
			for k := range api.MaxOps {
				op := put((i*api.MaxOps + k) % few)
				if (i+k)%2 == 0 || i == 3 {
					op = api.Op{Kind: 2, Val: k} // a Val that counts for nothing
				}
				crowd[i] = append(crowd[i], op)
			}
		}
		wantRush(t, vals, crowd)
	}
	takers := slices.Repeat(workers(slices.Repeat(ops(take), api.MaxOps)), 8)
	wantRush(t, vals, takers)
	putters := slices.Repeat(workers(slices.Repeat(ops(put(4)), api.MaxOps)), 8)
	wantRush(t, vals, putters)
	wantRush(t, vals, slices.Concat(takers, putters))
}

func TestRushThatIsRefused(t *testing.T) { // P10.6
	for _, c := range refusals() {
		if c.picks != nil {
			continue
		}
		if got, is, e := queue.Rush(c.vals, c.scripts); e != c.e || is || len(got) != 0 {
			t.Errorf("%s: Rush = %v, %v, %d, want %d", c.name, got, is, e, c.e)
		}
	}
}
