package search_test

import (
	"math"
	"math/rand"
	"slices"
	"testing"

	"larch/api"
	"larch/model"
	"larch/search"
)

// wantDo: Do against the words.
func wantDo(t *testing.T, thing int, s search.State, op api.Op) {
	t.Helper()
	end, ret := done(thing, s, op)
	gotEnd, gotRet, e := search.Do(thing, s, op)
	if e != api.OK || !sameState(gotEnd, end) || !model.SameRet(gotRet, ret) || !isPlain(gotEnd) {
		t.Errorf("Do(%d, %v, %v) = %v, %v, %d, want %v, %v", thing, s, op, gotEnd, gotRet, e, end, ret)
	}
}

func TestThingsByExamples(t *testing.T) { // P7.1
	cases := []struct {
		thing int
		s     search.State
		op    api.Op
		end   search.State
		ret   api.Ret
		e     api.Errno
	}{
		{search.Register, vals(), api.Op{Kind: 1}, search.State{}, api.Ret{}, api.ErrForm},
		{search.Stack, vals(1), api.Op{Kind: 3}, search.State{}, api.Ret{}, api.ErrKind},
		{9, vals(1), api.Op{Kind: 1}, search.State{}, api.Ret{}, api.ErrKind},
		{search.Counter, vals(9223372036854775807), api.Op{Kind: 2, Val: 1}, vals(-9223372036854775808), api.Ret{Ok: true, Val: -9223372036854775808}, api.OK},
	}
	for _, c := range cases {
		end, ret, e := search.Do(c.thing, c.s, c.op)
		if !sameState(end, c.end) || !model.SameRet(ret, c.ret) || e != c.e {
			t.Errorf("Do(%d, %v, %v) = %v, %v, %d", c.thing, c.s, c.op, end, ret, e)
		}
	}
}

func TestDoByWords(t *testing.T) { // P7.1
	for _, a := range edges {
		for _, b := range edges {
			for kind := 1; kind <= 3; kind++ {
				for _, held := range []int{a, b, 5} {
					wantDo(t, search.Register, vals(held), api.Op{Kind: kind, Key: a, Val: b, Hi: 9})
				}
			}
			for kind := 1; kind <= 2; kind++ {
				op := api.Op{Kind: kind, Key: 7, Val: a, Hi: 8}
				wantDo(t, search.Counter, vals(b), op)
				for _, s := range []search.State{{}, vals(), vals(b), vals(b, 3), vals(4, b), vals(1, b, 2)} {
					wantDo(t, search.Stack, s, op)
					wantDo(t, search.Queue, s, op)
				}
			}
			for kind := api.Get; kind <= api.Range; kind++ {
				for _, s := range []search.State{{}, pairs(), pairs(api.Pair{Key: b, Val: 6}), pairs(api.Pair{Key: 0, Val: b}, api.Pair{Key: 1, Val: a})} {
					wantDo(t, search.Map, s, api.Op{Kind: kind, Key: a, Val: b, Hi: b})
					wantDo(t, search.Map, s, api.Op{Kind: kind, Key: a, Val: b, Hi: math.MaxInt})
				}
			}
		}
	}
}

func TestRunByWords(t *testing.T) { // P7.1
	r := rand.New(rand.NewSource(7))
	for range 400 {
		for _, thing := range all {
			start := starts(thing)[r.Intn(len(starts(thing)))]
			ops := make([]api.Op, r.Intn(30))
			for i := range ops {
				ops[i] = api.Op{Kind: 1 + r.Intn(mostKind[thing]), Key: r.Intn(3), Val: edges[r.Intn(len(edges))], Hi: r.Intn(4)}
			}
			end, rets := start, []api.Ret{}
			for _, op := range ops {
				var ret api.Ret
				end, ret = done(thing, end, op)
				rets = append(rets, ret)
			}
			gotEnd, gotRets, e := search.Run(thing, start, ops)
			if e != api.OK || !sameState(gotEnd, end) || !isPlain(gotEnd) || !slices.EqualFunc(gotRets, rets, model.SameRet) {
				t.Fatalf("Run(%d, %v, %v) = %v, %v, %d, want %v, %v", thing, start, ops, gotEnd, gotRets, e, end, rets)
			}
		}
	}
}

func TestRunOfNoOperations(t *testing.T) { // P7.1
	for _, thing := range all {
		for _, start := range starts(thing) {
			for _, none := range [][]api.Op{nil, {}} {
				end, rets, e := search.Run(thing, start, none)
				if !sameState(end, start) || !isPlain(end) || len(rets) != 0 || e != api.OK {
					t.Errorf("Run(%d, %v, none) = %v, %v, %d", thing, start, end, rets, e)
				}
			}
		}
	}
}

func TestRunOfManyOperations(t *testing.T) { // P7.1
	ops := make([]api.Op, 200000)
	for i := range ops {
		ops[i] = api.Op{Kind: 1 + i/100%2, Val: i}
	}
	for _, thing := range []int{search.Stack, search.Queue} {
		end, rets, e := search.Run(thing, vals(-1, -2), ops)
		if e != api.OK || len(rets) != len(ops) || len(end.Vals) != 2 {
			t.Fatalf("Run(%d, ..) = %v, %d answers, %d", thing, end, len(rets), e)
		}
		want := vals(-1, -2)
		if thing == search.Queue { // the last two that came
			want = vals(199898, 199899)
		}
		if !sameState(end, want) || !rets[199999].Ok {
			t.Errorf("Run(%d, ..) = %v", thing, end)
		}
	}
}

func TestCheckOfStates(t *testing.T) { // P7.1
	p := api.Pair{Key: 1, Val: 1}
	states := []search.State{
		{}, vals(), pairs(), {Vals: []int{}, Pairs: []api.Pair{}}, vals(0), vals(math.MinInt), vals(1, 2), vals(1, 1, 1), pairs(p), pairs(p, api.Pair{Key: 2}), pairs(p, p), pairs(api.Pair{Key: 2}, p),
		pairs(api.Pair{Key: math.MinInt}, api.Pair{Key: math.MaxInt}), pairs(api.Pair{Key: math.MaxInt}, api.Pair{Key: math.MinInt}),
		{Vals: []int{1}, Pairs: []api.Pair{}}, {Vals: []int{1}, Pairs: []api.Pair{p}}, {Vals: []int{1, 2}, Pairs: []api.Pair{p}}, {Vals: []int{}, Pairs: []api.Pair{p}},
	}
	for _, s := range states {
		for _, thing := range all {
			want := api.OK
			if !inForm(thing, s) {
				want = api.ErrForm
			}
			if e := search.Check(thing, s); e != want {
				t.Errorf("Check(%d, %v) = %d, want %d", thing, s, e, want)
			}
		}
		for _, thing := range []int{math.MinInt, -1, 0, 6, 9, math.MaxInt} {
			if e := search.Check(thing, s); e != api.ErrKind {
				t.Errorf("Check(%d, %v) = %d", thing, s, e)
			}
		}
	}
}

// TestOperationsThatAreRefused: thing, state and kinds are wrong in all ways at once; the first error counts.
func TestOperationsThatAreRefused(t *testing.T) { // P7.1
	bad := search.State{Vals: []int{1, 2}, Pairs: []api.Pair{{Key: 2}, {Key: 1}}}
	for _, thing := range []int{-1, 0, 1, 2, 3, 4, 5, 6} {
		for _, kind := range []int{math.MinInt, -1, 0, 1, 2, 3, 4, 8, 9, 10, math.MaxInt} {
			isThing := thing >= 1 && thing <= 5
			good := search.State{}
			if isThing {
				good = starts(thing)[0]
			}
			for _, s := range []search.State{good, bad} {
				want := api.OK
				switch {
				case !isThing:
					want = api.ErrKind
				case !inForm(thing, s):
					want = api.ErrForm
				case kind < 1 || kind > mostKind[thing]:
					want = api.ErrKind
				}
				op := api.Op{Kind: kind}
				end, ret, e := search.Do(thing, s, op)
				if e != want || e != api.OK && (end.Vals != nil || end.Pairs != nil || !model.SameRet(ret, api.Ret{})) {
					t.Errorf("Do(%d, %v, %v) = %v, %v, %d, want %d", thing, s, op, end, ret, e, want)
				}
				for _, ops := range [][]api.Op{{op}, {{Kind: 1}, op}, {op, {Kind: 1}}, {{Kind: 1}, op, {Kind: 2}}} {
					end, rets, e := search.Run(thing, s, ops)
					if e != want || e != api.OK && (end.Vals != nil || end.Pairs != nil || rets != nil) {
						t.Errorf("Run(%d, %v, %v) = %v, %v, %d, want %d", thing, s, ops, end, rets, e, want)
					}
				}
			}
		}
	}
}
