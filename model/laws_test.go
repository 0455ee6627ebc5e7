package model_test

import (
	"math"
	"math/rand"
	"slices"
	"testing"

	"larch/api"
	"larch/model"
)

// did: Do, where no error is expected.
func did(t *testing.T, m []api.Pair, o api.Op) ([]api.Pair, api.Ret) {
	t.Helper()
	behind, ret, e := model.Do(m, o)
	if e != api.OK {
		t.Errorf("Do(%v, %v): error %d", m, o, e)
	}
	return behind, ret
}

func TestRunInTwoParts(t *testing.T) { // P6.3
	r := rand.New(rand.NewSource(3))
	for range 1000 {
		m, one, two := someMap(r, 10), someOps(r, 12), someOps(r, 12)
		half, before, e1 := model.Run(m, one)
		end, behind, e2 := model.Run(half, two)
		whole, rets, e3 := model.Run(m, slices.Concat(one, two))
		if e1+e2+e3 != 0 || !slices.Equal(whole, end) || !sameRets(rets, slices.Concat(before, behind)) {
			t.Errorf("Run(%v, %v, then %v): %v, %v; in two parts %v, %v, %v", m, one, two, whole, rets, end, before, behind)
		}
	}
}

func TestRunIsDoAgainAndAgain(t *testing.T) { // P6.3
	r := rand.New(rand.NewSource(4))
	for range 500 {
		m, ops := someMap(r, 10), someOps(r, 12)
		now := m
		var want []api.Ret
		for _, o := range ops {
			behind, ret := did(t, now, o)
			now, want = behind, append(want, ret)
		}
		if got, rets, e := model.Run(m, ops); e != api.OK || !slices.Equal(got, now) || !sameRets(rets, want) {
			t.Errorf("Run(%v, %v) = %v, %v, %d, want %v, %v", m, ops, got, rets, e, now, want)
		}
	}
}

func TestWhatBelongsTogether(t *testing.T) { // P6.3
	look := func(m []api.Pair, key, val int) {
		for kind := 1; kind <= 9; kind++ {
			if behind, _ := did(t, m, api.Op{Kind: kind, Key: key, Val: val, Hi: val}); !model.Changes(kind) && !slices.Equal(behind, m) {
				t.Errorf("kind %d of %d makes of %v: %v", kind, key, m, behind)
			}
		}
		behind, _ := did(t, m, api.Op{Kind: api.Put, Key: key, Val: val})
		if _, ret := did(t, behind, api.Op{Kind: api.Get, Key: key}); !sameRet(ret, api.Ret{Ok: true, Val: val}) {
			t.Errorf("behind Put %d %d on %v Get answers %v", key, val, m, ret)
		}
		behind, _ = did(t, m, api.Op{Kind: api.Delete, Key: key})
		if _, there, e := model.Find(behind, key); there || e != api.OK {
			t.Errorf("behind Delete %d on %v: %v", key, m, behind)
		}
		_, next := did(t, m, api.Op{Kind: api.Successor, Key: key})
		var above api.Ret // above the greatest number there is none
		if key < math.MaxInt {
			_, above = did(t, m, api.Op{Kind: api.Range, Key: key + 1, Hi: math.MaxInt})
		}
		if !sameRet(next, first(above.Pairs)) {
			t.Errorf("of %v: Successor %d answers %v, Range %v", m, key, next, above)
		}
		_, all := did(t, m, api.Op{Kind: api.Range, Key: math.MinInt, Hi: math.MaxInt})
		if _, most := did(t, m, api.Op{Kind: api.Max}); !sameRet(most, last(all.Pairs)) {
			t.Errorf("of %v: Max answers %v, Range %v", m, most, all)
		}
	}
	eachMap(func(m []api.Pair) {
		for i, key := range edgeKeys() {
			look(m, key, i-4)
		}
	})
	r := rand.New(rand.NewSource(5))
	for range 500 {
		look(someMap(r, 12), someKey(r), someKey(r))
	}
}
