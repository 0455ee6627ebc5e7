package stack_test

import (
	"math"
	"math/rand"
	"slices"
	"testing"

	"larch/api"
	"larch/stack"
)

// alone: the operations as the chapter says, on a list whose first one is the top.
func alone(start []int, ops []stack.Op) (gots []stack.Got, left, kinds []int) {
	left = slices.Clone(start)
	for _, op := range ops {
		got := stack.Got{}
		switch op.Kind {
		case stack.Push:
			got.Ok = true
			left = append([]int{op.Val}, left...)
			kinds = append(kinds, api.Load, api.Cas)
		case stack.Pop:
			kinds = append(kinds, api.Load)
			if len(left) > 0 {
				got = stack.Got{Ok: true, Val: left[0]}
				left = left[1:]
				kinds = append(kinds, api.Cas)
			}
		case stack.Top:
			if len(left) > 0 {
				got = stack.Got{Ok: true, Val: left[0]}
			}
			kinds = append(kinds, api.Load)
		case stack.Take:
			got = stack.Got{Ok: true, Vals: left}
			left = nil
			kinds = append(kinds, api.Swap)
		case stack.All:
			got = stack.Got{Ok: true, Vals: slices.Clone(left)}
			kinds = append(kinds, api.Load)
		}
		gots = append(gots, got)
	}
	return gots, left, kinds
}

func wantAlone(t *testing.T, start []int, ops []stack.Op) {
	t.Helper()
	gots, left, kinds := alone(start, ops)
	g, l, k, e := stack.Alone(start, ops)
	if e != api.OK || !slices.EqualFunc(g, gots, sameGot) || !slices.Equal(l, left) || !slices.Equal(k, kinds) {
		t.Fatalf("Alone(%v, %v) = %v, %v, %v, %d, want %v, %v, %v", start, ops, g, l, k, e, gots, left, kinds)
	}
}

func TestAloneByExample(t *testing.T) { // P9.1
	gots, left, kinds, e := stack.Alone([]int{5}, ops(pop, pop, push(1), push(2), top, all, take, take))
	want := []stack.Got{{Ok: true, Val: 5}, {}, {Ok: true}, {Ok: true}, {Ok: true, Val: 2}, {Ok: true, Vals: []int{2, 1}}, {Ok: true, Vals: []int{2, 1}}, {Ok: true}}
	wantKinds := []int{api.Load, api.Cas, api.Load, api.Load, api.Cas, api.Load, api.Cas, api.Load, api.Load, api.Swap, api.Swap}
	if e != api.OK || !slices.EqualFunc(gots, want, sameGot) || len(left) != 0 || !slices.Equal(kinds, wantKinds) {
		t.Errorf("Alone = %v, %v, %v, %d", gots, left, kinds, e)
	}
}

// TestAloneOfAll: every script of up to four operations, on stacks of up to two.
func TestAloneOfAll(t *testing.T) { // P9.1
	words := ops(push(3), pop, top, take, all)
	var grow func(script []stack.Op)
	grow = func(script []stack.Op) {
		for _, start := range [][]int{nil, {7}, {8, 9}} {
			wantAlone(t, start, script)
		}
		if len(script) == 4 {
			return
		}
		for _, op := range words {
			grow(append(slices.Clone(script), op))
		}
	}
	grow(nil)
}

func TestAloneByChance(t *testing.T) { // P9.1
	r := rand.New(rand.NewSource(1))
	for range 500 {
		wantAlone(t, someStart(r, 6), someOps(r, 60))
	}
}

func TestAloneOfLittle(t *testing.T) { // P9.1
	wantAlone(t, nil, nil)
	wantAlone(t, []int{}, ops())
	wantAlone(t, []int{1, 2, 3}, nil)
	wantAlone(t, []int{math.MinInt, math.MaxInt}, ops(pop, push(math.MinInt), top, push(math.MaxInt), all))
	wantAlone(t, nil, ops(pop, top, take, all))
	wantAlone(t, []int{4}, ops(stack.Op{Kind: stack.Pop, Val: 9}, stack.Op{Kind: stack.Top, Val: 9}, stack.Op{Kind: stack.Take, Val: 9}, stack.Op{Kind: stack.All, Val: 9})) // a Val that has no meaning
}

func TestAloneAtTheLimits(t *testing.T) { // P9.1
	start := make([]int, api.MaxOps)
	for i := range start {
		start[i] = i
	}
	wantAlone(t, start, slices.Repeat(ops(push(-1)), api.MaxOps))
	wantAlone(t, start, slices.Repeat(ops(pop), api.MaxOps))
	wantAlone(t, start, slices.Repeat(ops(pop, all), api.MaxOps/2))
}

func TestAloneThatIsRefused(t *testing.T) { // P9.1
	long := make([]int, api.MaxOps+1)
	for _, c := range []struct {
		name  string
		start []int
		ops   []stack.Op
		e     api.Errno
	}{
		{"kind 0", nil, ops(stack.Op{}), api.ErrKind},
		{"kind 6", nil, ops(stack.Op{Kind: 6}), api.ErrKind},
		{"kind 9", []int{1}, ops(pop, push(2), stack.Op{Kind: 9}), api.ErrKind},
		{"kind -1", nil, ops(stack.Op{Kind: -1}, pop), api.ErrKind},
		{"the greatest and the least kind", nil, ops(stack.Op{Kind: math.MaxInt}, stack.Op{Kind: math.MinInt}), api.ErrKind},
		{"a long start", long, nil, api.ErrBig},
		{"many operations", nil, slices.Repeat(ops(pop), api.MaxOps+1), api.ErrBig},
		{"a long start and a wrong kind", long, ops(stack.Op{}), api.ErrBig},
		{"many operations of a wrong kind", nil, make([]stack.Op, api.MaxOps+1), api.ErrBig},
	} {
		gots, left, kinds, e := stack.Alone(c.start, c.ops)
		if e != c.e || len(gots)+len(left)+len(kinds) != 0 {
			t.Errorf("%s: Alone = %v, %v, %v, %d, want %d", c.name, gots, left, kinds, e, c.e)
		}
	}
}
