package chain_test

import (
	"math/rand"
	"slices"
	"testing"

	"larch/api"
	"larch/chain"
	"larch/model"
	"larch/search"
)

// wantOrder: the history is right in some order that comes to the pairs that are left.
func wantOrder(t *testing.T, pairs []api.Pair, scripts [][]api.Op, picks []int, p chain.Played) {
	t.Helper()
	ends, e := search.Ends(search.Map, search.State{Pairs: pairs}, p.History)
	comes := slices.ContainsFunc(ends, func(s search.State) bool { return slices.Equal(s.Pairs, p.Left) })
	if e != api.OK || !comes || model.Check(p.Left) != api.OK {
		t.Fatalf("Play(%v, %v, %v): no order of %v comes to %v, but to %v (%d)", pairs, scripts, picks, p.History, p.Left, ends, e)
	}
}

// closeOp: on few keys, and more often one that changes something.
func closeOp(r *rand.Rand) api.Op {
	o := api.Op{Kind: kinds[r.Intn(len(kinds))], Key: r.Intn(4), Val: r.Intn(1000), Hi: r.Intn(4)}
	if o.Kind == api.Get && r.Intn(2) == 0 {
		o.Kind = api.Delete
	}
	if o.Kind == api.Range {
		o.Key = r.Intn(2)
	}
	return o
}

func TestThereIsAnOrder(t *testing.T) { // P15.3
	r := rand.New(rand.NewSource(5))
	pending, done := 0, 0 // done: what a pending operation did is seen
	for range 4000 {
		scripts := make([][]api.Op, 1+r.Intn(4))
		for range 1 + r.Intn(search.MaxSearch) {
			w := r.Intn(len(scripts))
			scripts[w] = append(scripts[w], closeOp(r))
		}
		pairs := model.Of(chainOf(r.Intn(4), -1, r.Intn(4), -2, r.Intn(4), -3)[:r.Intn(4)])
		picks := somePicks(r, len(scripts), 30*search.MaxSearch)
		p := mustPlay(t, pairs, scripts, picks)
		wantOrder(t, pairs, scripts, picks, p)
		if len(p.History)%2 == 1 {
			pending++
		}
		if isSeen(p) {
			done++
		}
	}
	if pending < 500 || done < 20 {
		t.Errorf("%d histories with pending operations, in %d of them one's deed is seen: the test sees too little", pending, done)
	}
}

// isSeen: is there a pair left that a pending operation has put?
func isSeen(p chain.Played) bool {
	pending := map[int]api.Op{}
	for _, e := range p.History {
		pending[e.Thread] = e.Op
		if e.Return {
			delete(pending, e.Thread)
		}
	}
	for _, o := range pending {
		if (o.Kind == api.Put || o.Kind == api.PutIfAbsent) && slices.Contains(p.Left, api.Pair{Key: o.Key, Val: o.Val}) {
			return true
		}
	}
	return false
}

// TestThereIsAnOrderOfNeighbours: what could go wrong where one deletes what another one hangs something behind.
func TestThereIsAnOrderOfNeighbours(t *testing.T) { // P15.3
	pairs := chainOf(1, 10, 2, 20, 3, 30)
	for _, scripts := range [][][]api.Op{
		workers(ops(del(1)), ops(del(2))), workers(ops(del(1)), ops(put(2, 7))), workers(ops(del(2)), ops(ifAbsent(4, 7))), workers(ops(del(3)), ops(put(4, 7))), workers(ops(put(2, 7)), ops(put(2, 8))), workers(ops(between(1, 3)), ops(del(1), put(3, 7))), workers(ops(ifAbsent(0, 7)), ops(ifAbsent(0, 8))),
	} {
		for i := range 30 {
			for j := range 30 {
				picks := slices.Concat(times(i, 0), times(j, 1), times(4, 0), times(90, 1), times(90, 0))
				wantOrder(t, pairs, scripts, picks, mustPlay(t, pairs, scripts, picks))
			}
		}
	}
}

// TestLeftIsAMapOfMany: games of more operations than can be searched; no value comes back that was taken away.
func TestLeftIsAMapOfMany(t *testing.T) { // P15.3
	r := rand.New(rand.NewSource(6))
	for range 200 {
		scripts := make([][]api.Op, 8)
		for w := range scripts {
			for i := range 20 {
				scripts[w] = append(scripts[w], closeOp(r))
				scripts[w][i].Val = 100 + 20*w + i // each its own
			}
		}
		pairs := longMap(r.Intn(5))
		p := mustPlay(t, pairs, scripts, somePicks(r, len(scripts), 4000))
		if model.Check(p.Left) != api.OK || slices.Contains(p.Panics, true) {
			t.Fatalf("left %v, panics %v", p.Left, p.Panics)
		}
		wentOnce(t, p.History, p.Left)
	}
}

// wentOnce: each pair, all of which are unlike, is taken away at most once, and isn't there behind that.
func wentOnce(t *testing.T, history []api.Event, left []api.Pair) {
	t.Helper()
	went := map[api.Pair]bool{}
	for _, e := range history {
		if !e.Return || !e.Ret.Ok || e.Op.Kind != api.Put && e.Op.Kind != api.Delete {
			continue
		}
		pair := api.Pair{Key: e.Op.Key, Val: e.Ret.Val}
		if went[pair] || slices.Contains(left, pair) {
			t.Fatalf("%v was taken away, and came back; left %v", pair, left)
		}
		went[pair] = true
	}
}

// TestReadsChangeNothing: of Gets and Ranges alone, whatever the picks are.
func TestReadsChangeNothing(t *testing.T) { // P15.4
	r := rand.New(rand.NewSource(7))
	returned := 0
	for range 500 {
		scripts := make([][]api.Op, 1+r.Intn(8))
		for w := range scripts {
			for range r.Intn(6) {
				scripts[w] = append(scripts[w], api.Op{Kind: []int{api.Get, api.Range}[r.Intn(2)], Key: someKey(r), Hi: someKey(r), Val: 5})
			}
		}
		pairs := somePairs(r, 7)
		p, m := wantPlay(t, pairs, scripts, somePicks(r, len(scripts), 400))
		if !slices.Equal(p.Left, pairs) || m.fails != 0 {
			t.Fatalf("of %v are left %v", pairs, p.Left)
		}
		for _, e := range p.History {
			if !e.Return {
				continue
			}
			returned++
			if fits, _ := model.Fits(pairs, e.Op, e.Ret); !fits {
				t.Fatalf("%v on %v answers %v", e.Op, pairs, e.Ret)
			}
		}
		for _, s := range p.Steps {
			if s.Kind > api.Load {
				t.Fatalf("a step %v", s)
			}
		}
	}
	if returned < 2000 {
		t.Errorf("%d operations returned: the test sees too little", returned)
	}
}
