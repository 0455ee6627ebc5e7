package chain_test

import (
	"math"
	"math/rand"
	"slices"
	"testing"

	"larch/api"
	"larch/chain"
	"larch/model"
)

// row: so many accesses of a kind.
func row(n, kind int) []int { return slices.Repeat([]int{kind}, n) }

// linkOne, linkTail: the kinds of a link of a record with one field, or none, that is at rest.
func linkOne() []int { return row(6, api.Load) }

func linkTail() []int { return row(5, api.Load) }

// changing: the kinds of an SCX of so many records, of which so many are finalized.
func changing(records, final int) []int {
	return slices.Concat(row(records, api.Cas), row(1+final, api.Store), []int{api.Cas, api.Store})
}

// kindsOf: the accesses of an operation on a chain of these pairs, as the chapter's table has them, when nobody else is at work.
func kindsOf(pairs []api.Pair, o api.Op) []int {
	at, there, _ := model.Find(pairs, o.Key)
	walked := row(at+1, api.Load)
	switch {
	case o.Kind == api.Range && o.Key > o.Hi:
		return nil
	case o.Kind == api.Range:
		upTo, _ := model.Part(pairs, math.MinInt, o.Hi)
		return slices.Concat(slices.Repeat(linkOne(), 1+len(upTo)), row(1+len(upTo), api.Load))
	case o.Kind == api.Get, o.Kind == api.PutIfAbsent && there, o.Kind == api.Delete && !there:
		return walked
	case !there:
		return slices.Concat(walked, linkOne(), changing(1, 0))
	case o.Kind == api.Put:
		return slices.Concat(walked, linkOne(), linkOne(), changing(2, 1))
	case at == len(pairs)-1:
		return slices.Concat(walked, linkOne(), linkOne(), linkTail(), changing(3, 2))
	}
	return slices.Concat(walked, linkOne(), linkOne(), linkOne(), changing(3, 2))
}

// wantAlone: Alone is layer 6's model, its kinds those of the table, and of the machine.
func wantAlone(t *testing.T, pairs []api.Pair, script []api.Op) {
	t.Helper()
	left, want, _ := model.Run(pairs, script)
	var kinds []int
	now := pairs
	for _, o := range script {
		kinds = append(kinds, kindsOf(now, o)...)
		now, _, _ = model.Do(now, o)
	}
	rets, got, tape, e := chain.Alone(pairs, script)
	if e != api.OK || !slices.EqualFunc(rets, want, model.SameRet) || !slices.Equal(got, left) || !slices.Equal(tape, kinds) {
		t.Fatalf("Alone(%v, %v) = %v, %v, %v, %d, want %v, %v, %v", pairs, script, rets, got, tape, e, want, left, kinds)
	}
	m := machineBehind(pairs, workers(script), times(len(kinds)+len(script), 0))
	var steps []int
	for _, s := range m.steps {
		if s.Kind != api.Start {
			steps = append(steps, s.Kind)
		}
	}
	if !slices.Equal(steps, kinds) || !m.workers[0].ended() {
		t.Fatalf("the machine of (%v, %v) does %v, want %v", pairs, script, steps, kinds)
	}
}

func TestAloneByExamples(t *testing.T) { // P15.1
	load, cas, store := api.Load, api.Cas, api.Store
	l, tail := linkOne(), linkTail()
	for _, c := range []struct {
		pairs []api.Pair
		op    api.Op
		ret   api.Ret
		left  []api.Pair
		kinds []int
	}{
		{chainOf(5, 50), get(5), api.Ret{Ok: true, Val: 50}, chainOf(5, 50), []int{load}},
		{chainOf(5, 50), get(9), api.Ret{}, chainOf(5, 50), []int{load, load}},
		{nil, put(1, 10), api.Ret{}, chainOf(1, 10), slices.Concat([]int{load}, l, []int{cas, store, cas, store})},
		{chainOf(5, 50), put(5, 51), api.Ret{Ok: true, Val: 50}, chainOf(5, 51), slices.Concat([]int{load}, l, l, []int{cas, cas, store, store, cas, store})},
		{chainOf(5, 50), del(5), api.Ret{Ok: true, Val: 50}, nil, slices.Concat([]int{load}, l, l, tail, []int{cas, cas, cas, store, store, store, cas, store})},
		{chainOf(5, 50, 7, 70), between(6, 9), api.Ret{Ok: true, Pairs: chainOf(7, 70)}, chainOf(5, 50, 7, 70), slices.Concat(l, l, l, []int{load, load, load})},
		{chainOf(5, 50, 7, 70), between(9, 6), api.Ret{Ok: true}, chainOf(5, 50, 7, 70), nil},
		{chainOf(5, 50, 7, 70), between(0, 5), api.Ret{Ok: true, Pairs: chainOf(5, 50)}, chainOf(5, 50, 7, 70), slices.Concat(l, l, []int{load, load})},
	} {
		rets, left, kinds, e := chain.Alone(c.pairs, ops(c.op))
		if e != api.OK || len(rets) != 1 || !model.SameRet(rets[0], c.ret) || !slices.Equal(left, c.left) || !slices.Equal(kinds, c.kinds) {
			t.Errorf("Alone(%v, %v) = %v, %v, %v, %d", c.pairs, c.op, rets, left, kinds, e)
		}
		wantAlone(t, c.pairs, ops(c.op))
	}
	if rets, left, kinds, e := chain.Alone(nil, ops(api.Op{Kind: api.Min})); e != api.ErrKind || len(rets)+len(left)+len(kinds) != 0 {
		t.Errorf("example 6: %v, %v, %v, %d", rets, left, kinds, e)
	}
}

// littleOps: all kinds, on three keys.
func littleOps() []api.Op {
	var list []api.Op
	for key := 1; key <= 3; key++ {
		list = append(list, get(key), put(key, 10+key), ifAbsent(key, 20+key), del(key), between(key, 3), between(1, key))
	}
	return append(list, between(3, 2))
}

// TestAloneOfAll: every script of up to three operations on three keys, on chains of all sizes.
func TestAloneOfAll(t *testing.T) { // P15.1
	for _, pairs := range [][]api.Pair{nil, chainOf(2, 20), chainOf(1, 10, 3, 30), chainOf(1, 10, 2, 20, 3, 30)} {
		for _, a := range littleOps() {
			wantAlone(t, pairs, ops(a))
			for _, b := range littleOps() {
				for _, c := range littleOps() {
					wantAlone(t, pairs, ops(a, b, c))
				}
			}
		}
	}
}

func TestAloneByChance(t *testing.T) { // P15.1
	r := rand.New(rand.NewSource(1))
	for range 1000 {
		wantAlone(t, somePairs(r, 6), someOps(r, 40))
	}
}

// TestAloneAtTheEnds: keys at both ends of the numbers, ahead of all and behind all; a Delete of the item ahead of the tail.
func TestAloneAtTheEnds(t *testing.T) { // P15.1
	least, most := math.MinInt, math.MaxInt
	wantAlone(t, nil, nil)
	wantAlone(t, []api.Pair{}, ops())
	wantAlone(t, nil, ops(get(0), del(0), between(least, most), put(0, 0), get(0), ifAbsent(0, 1), del(0), del(0), ifAbsent(0, 1), between(0, 0)))
	ends := chainOf(least, 1, 0, 0, most, 2)
	for _, key := range []int{least, least + 1, -1, 0, 1, most - 1, most} {
		for _, other := range []int{least, 0, most} {
			for _, pairs := range [][]api.Pair{nil, ends, ends[:1], ends[1:2], ends[2:]} {
				wantAlone(t, pairs, ops(get(key), put(key, most), get(key), ifAbsent(key, least), del(other), ifAbsent(key, 7), between(key, other), between(other, key), del(key), del(key), between(least, most)))
			}
		}
	}
	wantAlone(t, chainOf(5, 50), ops(put(4, 40), put(6, 60), del(6), del(5), del(4), put(9, 90)))
	wantAlone(t, chainOf(5, 0), ops(get(5), put(5, 0), ifAbsent(5, 0), del(5))) // a value of zero
}

func TestAloneAtTheLimits(t *testing.T) { // P15.1
	pairs := make([]api.Pair, api.MaxOps)
	for i := range pairs {
		pairs[i] = api.Pair{Key: 2 * i, Val: -i}
	}
	wantAlone(t, pairs, nil)
	wantAlone(t, pairs, ops(get(1998), get(1999), put(1999, 1), put(1000, 2), del(0), del(1999), between(math.MinInt, math.MaxInt), between(1997, 1998)))
	script := make([]api.Op, api.MaxOps)
	for i := range script {
		script[i] = put(-i, i)
	}
	wantAlone(t, nil, script)
	for i := range script {
		script[i] = del(2 * i)
	}
	wantAlone(t, pairs, script)
	for i := range script {
		script[i] = ifAbsent(2*(i%40), i)
	}
	wantAlone(t, pairs, script)
}

func TestAloneThatIsRefused(t *testing.T) { // P15.1
	long, odd := make([]api.Pair, api.MaxOps+1), chainOf(2, 2, 1, 1)
	bad := api.Op{Kind: 99}
	for _, c := range []struct {
		name  string
		pairs []api.Pair
		ops   []api.Op
		e     api.Errno
	}{
		{"many pairs that are no map, and no kind", long, ops(bad), api.ErrBig},
		{"many pairs that are a map", longMap(api.MaxOps + 1), nil, api.ErrBig},
		{"many operations", nil, slices.Repeat(ops(get(1)), api.MaxOps+1), api.ErrBig},
		{"many operations of no kind, on no map", odd, slices.Repeat(ops(bad), api.MaxOps+1), api.ErrBig},
		{"no map", odd, nil, api.ErrOrder},
		{"a key twice", chainOf(1, 1, 1, 1), ops(get(1)), api.ErrOrder},
		{"no map, and no kind", odd, ops(bad), api.ErrOrder},
		{"the last one of no kind", chainOf(1, 1), ops(get(1), put(1, 2), bad), api.ErrKind},
	} {
		if rets, left, tape, e := chain.Alone(c.pairs, c.ops); e != c.e || len(rets)+len(left)+len(tape) != 0 {
			t.Errorf("%s: Alone = %v, %v, %v, %d, want %d", c.name, rets, left, tape, e, c.e)
		}
	}
	for _, kind := range noKinds() {
		if rets, left, tape, e := chain.Alone(chainOf(1, 1), ops(api.Op{Kind: kind})); e != api.ErrKind || len(rets)+len(left)+len(tape) != 0 {
			t.Errorf("kind %d: Alone = %v, %v, %v, %d", kind, rets, left, tape, e)
		}
	}
}

// longMap: a map of so many pairs.
func longMap(n int) []api.Pair {
	pairs := make([]api.Pair, n)
	for i := range pairs {
		pairs[i] = api.Pair{Key: i, Val: i}
	}
	return pairs
}

// noKinds: those of layer 6 that a chain hasn't, and some that nobody has.
func noKinds() []int {
	return []int{api.Successor, api.Predecessor, api.Min, api.Max, 0, -1, 10, 99, math.MinInt, math.MaxInt}
}
