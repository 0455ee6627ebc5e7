package model_test

import (
	"math"
	"math/rand"
	"slices"
	"testing"

	"larch/api"
	"larch/model"
)

// What the chapter says, word by word and slowly: the tests hold the package against it.

// list: pairs from keys and values in turn.
func list(kv ...int) []api.Pair {
	var pairs []api.Pair
	for i := 0; i < len(kv); i += 2 {
		pairs = append(pairs, api.Pair{Key: kv[i], Val: kv[i+1]})
	}
	return pairs
}

func sameRet(a, b api.Ret) bool {
	return a.Ok == b.Ok && a.Key == b.Key && a.Val == b.Val && slices.Equal(a.Pairs, b.Pairs)
}

func sameRets(a, b []api.Ret) bool { return slices.EqualFunc(a, b, sameRet) }

func isMap(m []api.Pair) bool {
	for i := range m {
		for j := range i {
			if m[j].Key >= m[i].Key {
				return false
			}
		}
	}
	return true
}

// keys that matter, rising: both ends of the whole numbers, and some neighbours.
func edgeKeys() []int {
	return []int{math.MinInt, math.MinInt + 1, -1, 0, 1, 2, math.MaxInt - 1, math.MaxInt}
}

// eachMap calls look with the map of every set of the edge keys.
func eachMap(look func(m []api.Pair)) {
	keys := edgeKeys()
	for set := range 1 << len(keys) {
		var m []api.Pair
		for i, key := range keys {
			if set>>i&1 == 1 {
				m = append(m, api.Pair{Key: key, Val: 100*i - set})
			}
		}
		look(m)
	}
}

// held is a map without order; the least and greatest keys are looked for among all.
type held map[int]int

func holding(m []api.Pair) held {
	h := held{}
	for _, p := range m {
		h[p.Key] = p.Val
	}
	return h
}

func (h held) pairs(ask func(key int) bool) []api.Pair {
	var pairs []api.Pair
	for key, val := range h {
		if ask(key) {
			pairs = append(pairs, api.Pair{Key: key, Val: val})
		}
	}
	slices.SortFunc(pairs, func(a, b api.Pair) int {
		if a.Key < b.Key {
			return -1
		}
		return 1
	})
	return pairs
}

func (h held) all() []api.Pair {
	return h.pairs(func(int) bool { return true })
}

// do changes what is held, and answers.
func (h held) do(o api.Op) api.Ret {
	val, there := h[o.Key]
	switch o.Kind {
	case 1:
		return api.Ret{Ok: there, Val: val}
	case 2:
		h[o.Key] = o.Val
		return api.Ret{Ok: there, Val: val}
	case 3:
		if !there {
			h[o.Key] = o.Val
		}
		return api.Ret{Ok: !there, Val: val}
	case 4:
		delete(h, o.Key)
		return api.Ret{Ok: there, Val: val}
	case 5:
		return first(h.pairs(func(key int) bool { return key > o.Key }))
	case 6:
		return last(h.pairs(func(key int) bool { return key < o.Key }))
	case 7:
		return first(h.all())
	case 8:
		return last(h.all())
	}
	return api.Ret{Ok: true, Pairs: h.pairs(func(key int) bool { return key >= o.Key && key <= o.Hi })}
}

func first(pairs []api.Pair) api.Ret {
	if len(pairs) == 0 {
		return api.Ret{}
	}
	return api.Ret{Ok: true, Key: pairs[0].Key, Val: pairs[0].Val}
}

func last(pairs []api.Pair) api.Ret {
	return first(pairs[max(len(pairs)-1, 0):])
}

func someKey(r *rand.Rand) int {
	if r.Intn(4) == 0 {
		keys := edgeKeys()
		return keys[r.Intn(len(keys))]
	}
	return r.Intn(12) - 3
}

func someOp(r *rand.Rand) api.Op {
	return api.Op{Kind: 1 + r.Intn(9), Key: someKey(r), Val: someKey(r), Hi: someKey(r)}
}

func someOps(r *rand.Rand, most int) []api.Op {
	ops := make([]api.Op, r.Intn(most+1))
	for i := range ops {
		ops[i] = someOp(r)
	}
	return ops
}

func someMap(r *rand.Rand, most int) []api.Pair {
	h := held{}
	for range r.Intn(most + 1) {
		h[someKey(r)] = someKey(r)
	}
	return h.all()
}

// wantDone holds what Do answers against want.
func wantDone(t *testing.T, m []api.Pair, o api.Op, want []api.Pair, ret api.Ret) {
	t.Helper()
	got, r, e := model.Do(m, o)
	if e != api.OK || !slices.Equal(got, want) || !sameRet(r, ret) {
		t.Errorf("Do(%v, %v) = %v, %v, %d, want %v, %v", m, o, got, r, e, want, ret)
	}
	if !isMap(got) {
		t.Errorf("Do(%v, %v) = %v, which is no map", m, o, got)
	}
}
