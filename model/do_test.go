package model_test

import (
	"math"
	"math/rand"
	"slices"
	"testing"

	"larch/api"
	"larch/model"
)

func TestDoByExamples(t *testing.T) { // P6.2
	m := list(2, 20, 5, 50)
	for _, c := range []struct {
		o    api.Op
		want []api.Pair
		ret  api.Ret
	}{
		{api.Op{Kind: api.Get, Key: 5}, m, api.Ret{Ok: true, Val: 50}},
		{api.Op{Kind: api.Get, Key: 3}, m, api.Ret{}},
		{api.Op{Kind: api.Put, Key: 5, Val: 7}, list(2, 20, 5, 7), api.Ret{Ok: true, Val: 50}},
		{api.Op{Kind: api.Put, Key: 5, Val: 50}, m, api.Ret{Ok: true, Val: 50}},
		{api.Op{Kind: api.Put, Key: 3, Val: 7}, list(2, 20, 3, 7, 5, 50), api.Ret{}},
		{api.Op{Kind: api.Put, Key: math.MinInt, Val: 7}, list(math.MinInt, 7, 2, 20, 5, 50), api.Ret{}},
		{api.Op{Kind: api.Put, Key: math.MaxInt, Val: 7}, list(2, 20, 5, 50, math.MaxInt, 7), api.Ret{}},
		{api.Op{Kind: api.PutIfAbsent, Key: 3, Val: 7}, list(2, 20, 3, 7, 5, 50), api.Ret{Ok: true}},
		{api.Op{Kind: api.PutIfAbsent, Key: 5, Val: 7}, m, api.Ret{Val: 50}},
		{api.Op{Kind: api.Delete, Key: 2}, list(5, 50), api.Ret{Ok: true, Val: 20}},
		{api.Op{Kind: api.Delete, Key: 5}, list(2, 20), api.Ret{Ok: true, Val: 50}},
		{api.Op{Kind: api.Delete, Key: 9}, m, api.Ret{}},
		{api.Op{Kind: api.Successor, Key: 2}, m, api.Ret{Ok: true, Key: 5, Val: 50}},
		{api.Op{Kind: api.Successor, Key: 3}, m, api.Ret{Ok: true, Key: 5, Val: 50}},
		{api.Op{Kind: api.Successor, Key: 5}, m, api.Ret{}},
		{api.Op{Kind: api.Successor, Key: math.MaxInt}, m, api.Ret{}},
		{api.Op{Kind: api.Successor, Key: math.MinInt}, m, api.Ret{Ok: true, Key: 2, Val: 20}},
		{api.Op{Kind: api.Predecessor, Key: 5}, m, api.Ret{Ok: true, Key: 2, Val: 20}},
		{api.Op{Kind: api.Predecessor, Key: 3}, m, api.Ret{Ok: true, Key: 2, Val: 20}},
		{api.Op{Kind: api.Predecessor, Key: 2}, m, api.Ret{}},
		{api.Op{Kind: api.Predecessor, Key: math.MinInt}, m, api.Ret{}},
		{api.Op{Kind: api.Predecessor, Key: math.MaxInt}, m, api.Ret{Ok: true, Key: 5, Val: 50}},
		{api.Op{Kind: api.Min}, m, api.Ret{Ok: true, Key: 2, Val: 20}},
		{api.Op{Kind: api.Max}, m, api.Ret{Ok: true, Key: 5, Val: 50}},
		{api.Op{Kind: api.Range, Key: 2, Hi: 5}, m, api.Ret{Ok: true, Pairs: m}},
		{api.Op{Kind: api.Range, Key: 3, Hi: 4}, m, api.Ret{Ok: true}},
		{api.Op{Kind: api.Range, Key: 5, Hi: 2}, m, api.Ret{Ok: true}},
		{api.Op{Kind: api.Range, Key: 5, Hi: 5}, m, api.Ret{Ok: true, Pairs: list(5, 50)}},
		{api.Op{Kind: api.Range, Key: 9, Hi: 0}, m, api.Ret{Ok: true}},
		{api.Op{Kind: api.Range, Key: math.MinInt, Hi: math.MaxInt}, m, api.Ret{Ok: true, Pairs: m}},
		{api.Op{Kind: api.Range, Key: math.MaxInt, Hi: math.MinInt}, m, api.Ret{Ok: true}},
	} {
		wantDone(t, m, c.o, c.want, c.ret)
		if fits, e := model.Fits(m, c.o, c.ret); !fits || e != api.OK {
			t.Errorf("Fits(%v, %v, %v) = %v, %d", m, c.o, c.ret, fits, e)
		}
	}
}

func TestDoOnNoPairs(t *testing.T) { // P6.2
	for _, m := range [][]api.Pair{nil, {}} {
		for kind := 1; kind <= 9; kind++ {
			var want []api.Pair
			ret := api.Ret{Ok: kind == api.PutIfAbsent || kind == api.Range}
			if kind == api.Put || kind == api.PutIfAbsent {
				want = list(math.MinInt, 7)
			}
			wantDone(t, m, api.Op{Kind: kind, Key: math.MinInt, Val: 7, Hi: math.MaxInt}, want, ret)
		}
	}
}

func TestDoAtTheEndsOfNumbers(t *testing.T) { // P6.2
	eachMap(func(m []api.Pair) {
		for kind := 1; kind <= 9; kind++ {
			for i, key := range edgeKeys() {
				hi := edgeKeys()[(i*3+len(m))%8]
				o := api.Op{Kind: kind, Key: key, Val: math.MinInt + i, Hi: hi}
				h := holding(m)
				ret := h.do(o)
				wantDone(t, m, o, h.all(), ret)
			}
		}
	})
}

func TestRangesOfAllEnds(t *testing.T) { // P6.2
	eachMap(func(m []api.Pair) {
		for _, lo := range edgeKeys() {
			for _, hi := range edgeKeys() {
				o := api.Op{Kind: api.Range, Key: lo, Hi: hi}
				wantDone(t, m, o, m, holding(m).do(o))
			}
		}
	})
}

func TestRunByTheWords(t *testing.T) { // P6.2
	r := rand.New(rand.NewSource(1))
	for range 2000 {
		m, ops := someMap(r, 10), someOps(r, 30)
		h := holding(m)
		var want []api.Ret
		for _, o := range ops {
			want = append(want, h.do(o))
		}
		got, rets, e := model.Run(m, ops)
		if e != api.OK || !slices.Equal(got, h.all()) || !sameRets(rets, want) {
			t.Errorf("Run(%v, %v) = %v, %v, %d, want %v, %v", m, ops, got, rets, e, h.all(), want)
		}
	}
}

func TestRunOfNothing(t *testing.T) { // P6.2
	for _, ops := range [][]api.Op{nil, {}} {
		for _, m := range [][]api.Pair{nil, {}, list(1, 2)} {
			if got, rets, e := model.Run(m, ops); e != api.OK || !slices.Equal(got, m) || len(rets) != 0 {
				t.Errorf("Run(%v) = %v, %v, %d", m, got, rets, e)
			}
		}
	}
}

func TestRunOfManyOperations(t *testing.T) { // P6.2
	const n = 4000
	var ops []api.Op
	for i := range n {
		ops = append(ops, api.Op{Kind: api.Put, Key: i * 2741 % n, Val: i})
	}
	m, rets, e := model.Run(nil, ops)
	if e != api.OK || len(m) != n || !isMap(m[:100]) || m[0] != (api.Pair{}) || m[n-1].Key != n-1 || slices.ContainsFunc(rets, func(r api.Ret) bool { return r.Ok }) {
		t.Errorf("Run of %d puts: %d pairs, error %d", n, len(m), e)
	}
	for i := range ops {
		ops[i].Kind = api.Delete
	}
	if m, rets, e = model.Run(m, ops); e != api.OK || len(m) != 0 || !sameRet(rets[n-1], api.Ret{Ok: true, Val: n - 1}) {
		t.Errorf("Run of %d deletes: %d pairs, error %d", n, len(m), e)
	}
}

// noMaps: lists that are none.
func noMaps() [][]api.Pair {
	return [][]api.Pair{
		list(5, 1, 5, 2), list(5, 1, 5, 1), list(5, 1, 2, 2), list(1, 0, 2, 0, 3, 0, 3, 0), list(1, 0, 0, 0, 5, 0), list(math.MaxInt, 0, math.MinInt, 0),
		list(math.MinInt, 0, math.MinInt, 0), list(math.MaxInt, 0, math.MaxInt, 0), list(2, 0, 1, 0, 3, 0),
	}
}

// noKinds: kinds that are none.
func noKinds() []int { return []int{0, 10, -1, 99, math.MinInt, math.MaxInt} }

func TestDoRefuses(t *testing.T) { // P6.2
	look := func(m []api.Pair, o api.Op, want api.Errno) {
		t.Helper()
		got, ret, e := model.Do(m, o)
		if e != want || len(got) != 0 || !sameRet(ret, api.Ret{}) {
			t.Errorf("Do(%v, %v) = %v, %v, %d, want %d", m, o, got, ret, e, want)
		}
		for _, r := range []api.Ret{{}, {Ok: true}} {
			if fits, e := model.Fits(m, o, r); e != want || fits {
				t.Errorf("Fits(%v, %v, %v) = %v, %d, want %d", m, o, r, fits, e, want)
			}
		}
		for _, ops := range [][]api.Op{{o}, {{Kind: api.Put, Key: 1, Val: 1}, o}, {o, {Kind: api.Get}}} {
			if got, rets, e := model.Run(m, ops); e != want || len(got) != 0 || len(rets) != 0 {
				t.Errorf("Run(%v, %v) = %v, %v, %d, want %d", m, ops, got, rets, e, want)
			}
		}
	}
	for _, m := range noMaps() {
		for kind := 1; kind <= 9; kind++ {
			look(m, api.Op{Kind: kind, Key: 5, Hi: 9}, api.ErrOrder)
		}
		for _, kind := range noKinds() {
			look(m, api.Op{Kind: kind}, api.ErrOrder)
		}
		if got, rets, e := model.Run(m, nil); e != api.ErrOrder || len(got) != 0 || len(rets) != 0 {
			t.Errorf("Run(%v) of nothing = %v, %v, %d", m, got, rets, e)
		}
	}
	for _, kind := range noKinds() {
		for _, m := range [][]api.Pair{nil, {}, list(2, 20, 5, 50)} {
			look(m, api.Op{Kind: kind, Key: 5, Val: 1, Hi: 9}, api.ErrKind)
		}
	}
}

func TestFitsByExamples(t *testing.T) { // P6.2
	m := list(2, 20)
	get, all := api.Op{Kind: api.Get, Key: 2}, api.Op{Kind: api.Range, Key: 0, Hi: 9}
	for _, c := range []struct {
		o    api.Op
		ret  api.Ret
		want bool
	}{
		{get, api.Ret{Ok: true, Val: 20}, true}, {get, api.Ret{Ok: true, Val: 20, Pairs: []api.Pair{}}, true},
		{get, api.Ret{Ok: true, Val: 20, Key: 2}, false}, {get, api.Ret{Val: 20}, false}, {get, api.Ret{Ok: true}, false}, {get, api.Ret{Ok: true, Val: 20, Pairs: list(0, 0)}, false},
		{all, api.Ret{Ok: true, Pairs: list(2, 20)}, true},
		{all, api.Ret{Ok: true}, false}, {all, api.Ret{Pairs: list(2, 20)}, false}, {all, api.Ret{Ok: true, Pairs: list(2, 21)}, false}, {all, api.Ret{Ok: true, Pairs: list(2, 20, 3, 0)}, false},
	} {
		if fits, e := model.Fits(m, c.o, c.ret); fits != c.want || e != api.OK {
			t.Errorf("Fits(%v, %v, %v) = %v, %d", m, c.o, c.ret, fits, e)
		}
	}
}

func TestFitsIsWhatDoAnswers(t *testing.T) { // P6.2
	r := rand.New(rand.NewSource(2))
	for range 3000 {
		m, o := someMap(r, 8), someOp(r)
		ret := holding(m).do(someOp(r))
		want := sameRet(holding(m).do(o), ret)
		if fits, e := model.Fits(m, o, ret); e != api.OK || fits != want {
			t.Errorf("Fits(%v, %v, %v) = %v, %d, want %v", m, o, ret, fits, e, want)
		}
		ret = holding(m).do(o)
		if fits, e := model.Fits(m, o, ret); e != api.OK || !fits {
			t.Errorf("Fits(%v, %v, %v) = %v, %d", m, o, ret, fits, e)
		}
	}
}
