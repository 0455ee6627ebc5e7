package queue_test

import (
	"math"
	"math/rand"
	"slices"
	"testing"

	"larch/api"
	"larch/queue"
	"larch/search"
)

// wantAlone: Alone is the queue of layer 7; Kinds are those of the machine's steps.
func wantAlone(t *testing.T, vals []int, ops []api.Op) {
	t.Helper()
	end, want, _ := search.Run(search.Queue, search.State{Vals: vals}, ops)
	rets, left, e := queue.Alone(vals, ops)
	if e != api.OK || !slices.EqualFunc(rets, want, sameRet) || !slices.Equal(left, end.Vals) {
		t.Fatalf("Alone(%v, %v) = %v, %v, %d, want %v, %v", vals, ops, rets, left, e, want, end.Vals)
	}
	m := newMachine(vals, workers(ops))
	for !m.workers[0].ended() {
		m.pick(0)
	}
	var kinds []int
	for _, s := range m.steps {
		kinds = append(kinds, s.Kind)
	}
	if got, e := queue.Kinds(vals, ops); e != api.OK || !slices.Equal(got, kinds) {
		t.Fatalf("Kinds(%v, %v) = %v, %d, want %v", vals, ops, got, e, kinds)
	}
}

func TestAloneByExamples(t *testing.T) { // P10.2
	for _, c := range []struct {
		vals []int
		op   api.Op
		want []int
	}{
		{nil, put(5), []int{api.Start, api.Load, api.Load, api.Cas, api.Cas}},
		{nil, take, []int{api.Start, api.Load, api.Load, api.Load}},
		{[]int{7}, take, []int{api.Start, api.Load, api.Load, api.Load, api.Cas}},
	} {
		if got, e := queue.Kinds(c.vals, ops(c.op)); e != api.OK || !slices.Equal(got, c.want) {
			t.Errorf("example 1: Kinds(%v, %v) = %v, %d", c.vals, c.op, got, e)
		}
	}
	rets, left, e := queue.Alone([]int{1, 2}, ops(put(3), take, take))
	if want := []api.Ret{{Ok: true}, {Ok: true, Val: 1}, {Ok: true, Val: 2}}; e != api.OK || !slices.EqualFunc(rets, want, sameRet) || !slices.Equal(left, []int{3}) {
		t.Errorf("example 2: %v, %v, %d", rets, left, e)
	}
}

// TestAloneOfAll: every script of up to seven operations, on queues of up to two.
func TestAloneOfAll(t *testing.T) { // P10.2
	var grow func(script []api.Op)
	grow = func(script []api.Op) {
		for _, vals := range [][]int{nil, {70}, {80, 90}} {
			wantAlone(t, vals, script)
		}
		if len(script) == 7 {
			return
		}
		grow(append(slices.Clone(script), put(len(script))))
		grow(append(slices.Clone(script), take))
	}
	grow(nil)
}

func TestAloneByChance(t *testing.T) { // P10.2
	r := rand.New(rand.NewSource(3))
	for range 500 {
		wantAlone(t, someVals(r, 5), someOps(r, 60))
	}
}

func TestAloneAtTheLimits(t *testing.T) { // P10.2
	wantAlone(t, nil, nil)
	wantAlone(t, []int{}, ops())
	wantAlone(t, []int{math.MinInt, math.MaxInt}, ops(take, put(math.MinInt), take, take, put(math.MaxInt)))
	vals := make([]int, api.MaxOps)
	for i := range vals {
		vals[i] = i
	}
	wantAlone(t, vals, nil)
	wantAlone(t, vals, slices.Repeat(ops(put(-1)), api.MaxOps))
	wantAlone(t, vals, slices.Repeat(ops(take), api.MaxOps))
	wantAlone(t, nil, slices.Repeat(ops(put(1), take), api.MaxOps/2))
}

func TestAloneThatIsRefused(t *testing.T) { // P10.2
	long := make([]int, api.MaxOps+1)
	for _, c := range []struct {
		name string
		vals []int
		ops  []api.Op
		e    api.Errno
	}{
		{"kind 0", nil, ops(api.Op{}), api.ErrKind},
		{"kind 3", []int{1}, ops(take, put(2), api.Op{Kind: 3}), api.ErrKind},
		{"kind -1", nil, ops(api.Op{Kind: -1}, take), api.ErrKind},
		{"the greatest and the least kind", nil, ops(api.Op{Kind: math.MaxInt}, api.Op{Kind: math.MinInt}), api.ErrKind},
		{"many vals", long, nil, api.ErrBig},
		{"many operations", nil, slices.Repeat(ops(take), api.MaxOps+1), api.ErrBig},
		{"many vals and a wrong kind", long, ops(take, api.Op{}), api.ErrKind},
		{"many operations of a wrong kind", nil, make([]api.Op, api.MaxOps+1), api.ErrKind},
		{"many operations, the last one of a wrong kind", long, append(slices.Repeat(ops(take), api.MaxOps), api.Op{Kind: 9}), api.ErrKind},
	} {
		if rets, left, e := queue.Alone(c.vals, c.ops); e != c.e || len(rets)+len(left) != 0 {
			t.Errorf("%s: Alone = %v, %v, %d, want %d", c.name, rets, left, e, c.e)
		}
		if kinds, e := queue.Kinds(c.vals, c.ops); e != c.e || len(kinds) != 0 {
			t.Errorf("%s: Kinds = %v, %d, want %d", c.name, kinds, e, c.e)
		}
	}
}
