package model_test

import (
	"slices"
	"testing"

	"larch/api"
	"larch/model"
)

// roomy: the pairs, with spare room behind them that is written to.
func roomy(pairs []api.Pair) []api.Pair {
	room := append(slices.Clone(pairs), list(-1, -2, -3, -4, -5, -6)...)
	return room[:len(pairs)]
}

func whole(pairs []api.Pair) []api.Pair {
	return slices.Clone(pairs[:cap(pairs)])
}

// scribble writes all over what was answered, spare room included.
func scribble(pairs []api.Pair) {
	for i := range pairs[:cap(pairs)] {
		pairs[:cap(pairs)][i] = api.Pair{Key: -77, Val: -78}
	}
}

// everyOp: operations of all kinds, on keys that are there and keys that aren't.
func everyOp() []api.Op {
	var ops []api.Op
	for kind := 1; kind <= 9; kind++ {
		for _, key := range []int{0, 2, 3, 5, 9} {
			ops = append(ops, api.Op{Kind: kind, Key: key, Val: 7, Hi: 5}, api.Op{Kind: kind, Key: key, Val: 8, Hi: 99})
		}
	}
	return ops
}

func TestNothingHandedInIsChanged(t *testing.T) { // P6.4
	ops := everyOp()
	room := append(slices.Clone(ops), api.Op{Kind: 77}, api.Op{Kind: 78})
	handed := room[:len(ops)]
	for _, pairs := range [][]api.Pair{nil, list(5, 50), list(2, 20, 5, 50, 8, 80), list(5, 1, 2, 2, 5, 3)} {
		m, other := roomy(pairs), roomy(list(2, 20, 5, 51))
		ret := api.Ret{Ok: true, Pairs: m}
		before, otherBefore := whole(m), whole(other)
		look := func(what string) {
			t.Helper()
			if !slices.Equal(whole(m), before) || !slices.Equal(whole(other), otherBefore) || !slices.Equal(room[:len(ops)], ops) || room[len(ops)].Kind != 77 || room[len(ops)+1].Kind != 78 {
				t.Fatalf("%s has changed what it was handed: %v, %v", what, m, other)
			}
		}
		for _, o := range ops {
			model.Do(m, o)
			look("Do")
			model.Fits(m, o, ret)
			look("Fits")
		}
		model.Run(m, handed)
		look("Run")
		model.Of(m)
		look("Of")
		model.Check(m)
		model.Find(m, 5)
		look("Find")
		model.Part(m, 3, 9)
		look("Part")
		model.Differ(m, other)
		model.Differ(other, m)
		look("Differ")
		model.Same(m, other)
		model.SameRet(ret, api.Ret{Ok: true, Pairs: other})
		look("Same")
	}
}

func TestAnswersAreNewMemory(t *testing.T) { // P6.4
	m := roomy(list(2, 20, 5, 50, 8, 80))
	before := whole(m)
	look := func(what string) {
		t.Helper()
		if !slices.Equal(whole(m), before) {
			t.Fatalf("%s shares memory with what it was handed: %v", what, m)
		}
	}
	for _, o := range everyOp() {
		behind, ret, _ := model.Do(m, o)
		kept := slices.Clone(ret.Pairs)
		scribble(behind)
		look("Do")
		if !slices.Equal(ret.Pairs, kept) {
			t.Errorf("Do(%v): the map and the pairs share memory", o)
		}
		scribble(ret.Pairs)
		look("Do")
	}
	scribble(model.Of(m))
	look("Of")
	for _, hi := range []int{0, 4, 9} {
		part, _ := model.Part(m, 1, hi)
		scribble(part)
		look("Part")
	}
	behind, rets, _ := model.Run(m, nil)
	scribble(behind)
	look("Run of nothing")
	if len(rets) != 0 {
		t.Errorf("Run of nothing answers %v", rets)
	}
	keys, _ := model.Differ(m, nil)
	clear(keys[:cap(keys)])
	look("Differ")
}

// TestListsOfOneRunShareNothing: what an operation answered stays, whatever the later ones do.
func TestListsOfOneRunShareNothing(t *testing.T) { // P6.4
	m := roomy(list(2, 20, 5, 50, 8, 80))
	all := api.Op{Kind: api.Range, Key: -9, Hi: 9}
	behind, rets, e := model.Run(m, []api.Op{all, {Kind: api.Put, Key: 5, Val: 1}, all, {Kind: api.Delete, Key: 2}, all, {Kind: api.Put, Key: 3, Val: 3}, all, all})
	if e != api.OK {
		t.Fatalf("Run: error %d", e)
	}
	want := [][]api.Pair{list(2, 20, 5, 50, 8, 80), nil, list(2, 20, 5, 1, 8, 80), nil, list(5, 1, 8, 80), nil, list(3, 3, 5, 1, 8, 80), list(3, 3, 5, 1, 8, 80)}
	scribble(behind)
	for i, r := range rets {
		if !slices.Equal(r.Pairs, want[i]) {
			t.Errorf("answer %d has the pairs %v, want %v", i, r.Pairs, want[i])
		}
		scribble(r.Pairs)
	}
}
