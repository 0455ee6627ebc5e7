package index_test

import (
	"math"
	"math/rand"
	"slices"
	"testing"

	"larch/api"
	"larch/event"
	"larch/index"
	"larch/model"
	"larch/search"
	"larch/seq"
	"larch/table"
	"larch/weigh"
)

func get(key int) api.Op           { return api.Op{Kind: api.Get, Key: key} }
func put(key, val int) api.Op      { return api.Op{Kind: api.Put, Key: key, Val: val} }
func ifAbsent(key, val int) api.Op { return api.Op{Kind: api.PutIfAbsent, Key: key, Val: val} }
func del(key int) api.Op           { return api.Op{Kind: api.Delete, Key: key} }
func after(key int) api.Op         { return api.Op{Kind: api.Successor, Key: key} }
func before(key int) api.Op        { return api.Op{Kind: api.Predecessor, Key: key} }
func least() api.Op                { return api.Op{Kind: api.Min} }
func greatest() api.Op             { return api.Op{Kind: api.Max} }
func rangeOf(lo, hi int) api.Op    { return api.Op{Kind: api.Range, Key: lo, Hi: hi} }
func everything() api.Op           { return rangeOf(math.MinInt, math.MaxInt) }

func ops(list ...api.Op) []api.Op            { return list }
func workers(scripts ...[]api.Op) [][]api.Op { return scripts }
func times(n, worker int) []int              { return slices.Repeat([]int{worker}, n) }

// pairsOf: key, value, key, value, ..
func pairsOf(numbers ...int) []api.Pair {
	var pairs []api.Pair
	for i := 0; i+1 < len(numbers); i += 2 {
		pairs = append(pairs, api.Pair{Key: numbers[i], Val: numbers[i+1]})
	}
	return pairs
}

// same: the keys, each with itself as its value.
func same(keys ...int) []api.Pair {
	var pairs []api.Pair
	for _, key := range keys {
		pairs = append(pairs, api.Pair{Key: key, Val: key})
	}
	return pairs
}

func pairsIn(t *testing.T, list []api.Node) []api.Pair {
	t.Helper()
	pairs, e := table.Pairs(list)
	if e != api.OK {
		t.Fatalf("%v has no pairs: %d", list, e)
	}
	return pairs
}

// grown: layer 19's table: of the empty crown, behind the Puts of start, and then the operations.
func grown(t *testing.T, start []api.Pair, script []api.Op) []api.Node {
	t.Helper()
	list, e := seq.Of(start)
	if e == api.OK {
		list, _, _, e = seq.Run(list, script)
	}
	if e != api.OK {
		t.Fatalf("layer 19 on %v, %v: %d", start, script, e)
	}
	return list
}

func sameRets(a, b []api.Ret) bool { return slices.EqualFunc(a, b, model.SameRet) }

func sameEvent(a, b api.Event) bool {
	return a.Thread == b.Thread && a.Return == b.Return && a.Op == b.Op && model.SameRet(a.Ret, b.Ret)
}

func retsOf(p index.Played) []api.Ret {
	var rets []api.Ret
	for _, e := range p.History {
		if e.Return {
			rets = append(rets, e.Ret)
		}
	}
	return rets
}

// kindsOf: of the steps that did something.
func kindsOf(p index.Played) []int {
	var kinds []int
	for _, s := range p.Steps {
		if s.Kind != -1 {
			kinds = append(kinds, s.Kind)
		}
	}
	return kinds
}

func isNothing(p index.Played) bool {
	return p.Steps == nil && p.Ended == nil && p.History == nil && p.Table == nil
}

// pendingOf: how many updates are pending.
func pendingOf(history []api.Event) int {
	n := 0
	for _, e := range history {
		switch {
		case !model.Changes(e.Op.Kind):
		case e.Return:
			n--
		default:
			n++
		}
	}
	return n
}

// wantTree: P24.4, of a table.
func wantTree(t *testing.T, list []api.Node, pending int) {
	t.Helper()
	norm, _ := table.Norm(list)
	if e := seq.Check(list); e != api.OK || !slices.Equal(norm, list) {
		t.Fatalf("%v isn't fit, or isn't numbered from the root on: %d", list, e)
	}
	_, even, _ := weigh.Even(list)
	faults, e := weigh.Violations(list)
	if e != api.OK || !even || faults > pending {
		t.Fatalf("%v: even %v, %d violations, %d updates are pending", list, even, faults, pending)
	}
	if fits, _ := weigh.Fits(list); pending == 0 && !fits {
		t.Fatalf("%v doesn't fit", list)
	}
}

// wantOrder: P24.3, of at most search.MaxSearch operations.
func wantOrder(t *testing.T, start []api.Pair, p index.Played) {
	t.Helper()
	left := pairsIn(t, p.Table)
	ends, e := search.Ends(search.Map, search.State{Pairs: model.Of(start)}, p.History)
	comes := slices.ContainsFunc(ends, func(s search.State) bool { return slices.Equal(s.Pairs, left) })
	if e != api.OK || !comes {
		t.Fatalf("from %v no order of %v comes to %v, but to %v (%d)", start, p.History, left, ends, e)
	}
}

// wantPlay: a run that obeys what holds whatever the picks are.
func wantPlay(t *testing.T, start []api.Pair, scripts [][]api.Op, picks []int) index.Played {
	t.Helper()
	p, e := index.Play(start, scripts, picks)
	if e != api.OK || len(p.Steps) != len(picks) || len(p.Ended) != len(scripts) || event.Check(p.History) != api.OK {
		t.Fatalf("Play(%v, %v, %v) = %v, %d", start, scripts, picks, p, e)
	}
	wantTree(t, p.Table, pendingOf(p.History))
	if len(slices.Concat(scripts...)) <= search.MaxSearch {
		wantOrder(t, start, p)
	}
	return p
}

// wantAlone: as layers 6 and 19.
func wantAlone(t *testing.T, start []api.Pair, script []api.Op) []api.Node {
	t.Helper()
	_, want, _ := model.Run(model.Of(start), script)
	list := grown(t, start, script)
	rets, got, e := index.Alone(start, script)
	if e != api.OK || !sameRets(rets, want) || !slices.Equal(got, list) {
		t.Fatalf("Alone(%v, %v) = %v, %v, %d, want %v, %v", start, script, rets, got, e, want, list)
	}
	return got
}

// noKinds are nobody's.
func noKinds() []int { return []int{0, -1, 10, 99, math.MinInt, math.MaxInt} }

// someKey: a small one, or one of the ends.
func someKey(r *rand.Rand) int {
	if r.Intn(12) == 0 {
		return []int{math.MinInt, math.MinInt + 1, math.MaxInt - 1, math.MaxInt}[r.Intn(4)]
	}
	return r.Intn(12) - 4
}

// someOps: of all nine kinds.
func someOps(r *rand.Rand, n int) []api.Op {
	list := make([]api.Op, n)
	for i := range list {
		list[i] = api.Op{Kind: []int{1, 2, 2, 3, 4, 4, 5, 6, 7, 8, 9}[r.Intn(11)], Key: someKey(r), Val: r.Intn(100), Hi: someKey(r)}
	}
	return list
}

// somePairs: keys in any order, some of them twice.
func somePairs(r *rand.Rand, most int) []api.Pair {
	list := make([]api.Pair, r.Intn(most+1))
	for i := range list {
		list[i] = api.Pair{Key: someKey(r), Val: -r.Intn(100)}
	}
	return list
}

// somePicks: now one access of a worker, now many; here and there one that does nothing.
func somePicks(r *rand.Rand, crew, n int) []int {
	var picks []int
	for len(picks) < n {
		picks = append(picks, times(1+r.Intn(1<<r.Intn(7)), r.Intn(crew))...)
		if r.Intn(10) == 0 {
			picks = append(picks, []int{-1, crew, math.MinInt, math.MaxInt}[r.Intn(4)])
		}
	}
	return picks
}
