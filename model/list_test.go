package model_test

import (
	"math"
	"math/rand"
	"slices"
	"testing"

	"larch/api"
	"larch/model"
)

func TestCheck(t *testing.T) { // P6.1
	for _, m := range [][]api.Pair{nil, {}, list(5, 1), list(2, 20, 5, 50), list(math.MinInt, 0, math.MaxInt, 0), list(-1, 9, 0, 8, 1, 7)} {
		if e := model.Check(m); e != api.OK {
			t.Errorf("Check(%v) = %d", m, e)
		}
	}
	for _, m := range noMaps() {
		if e := model.Check(m); e != api.ErrOrder {
			t.Errorf("Check(%v) = %d", m, e)
		}
	}
	r := rand.New(rand.NewSource(6))
	for range 2000 {
		m := somePairs(r, 4)
		if e := model.Check(m); (e == api.OK) != isMap(m) || e != api.OK && e != api.ErrOrder {
			t.Errorf("Check(%v) = %d", m, e)
		}
	}
}

// somePairs: a list in any order.
func somePairs(r *rand.Rand, most int) []api.Pair {
	pairs := make([]api.Pair, r.Intn(most+1))
	for i := range pairs {
		pairs[i] = api.Pair{Key: someKey(r), Val: i}
	}
	return pairs
}

func TestKindAndChanges(t *testing.T) { // P6.1
	for kind := 1; kind <= 9; kind++ {
		if e := model.Kind(kind); e != api.OK {
			t.Errorf("Kind(%d) = %d", kind, e)
		}
		if got := model.Changes(kind); got != (kind == 2 || kind == 3 || kind == 4) {
			t.Errorf("Changes(%d) = %v", kind, got)
		}
	}
	for _, kind := range noKinds() {
		if e := model.Kind(kind); e != api.ErrKind {
			t.Errorf("Kind(%d) = %d", kind, e)
		}
		if model.Changes(kind) {
			t.Errorf("Changes(%d)", kind)
		}
	}
}

func TestPlain(t *testing.T) { // P6.1
	for kind, want := range map[int]api.Op{
		api.Get:         {Key: 3},
		api.Put:         {Key: 3, Val: 4},
		api.PutIfAbsent: {Key: 3, Val: 4},
		api.Delete:      {Key: 3},
		api.Successor:   {Key: 3},
		api.Predecessor: {Key: 3},
		api.Min:         {},
		api.Max:         {},
		api.Range:       {Key: 3, Hi: 5},
		-2:              {}, 0: {}, 10: {}, math.MinInt: {}, math.MaxInt: {},
	} {
		want.Kind = kind
		if got := model.Plain(api.Op{Kind: kind, Key: 3, Val: 4, Hi: 5}); got != want {
			t.Errorf("Plain of kind %d = %v, want %v", kind, got, want)
		}
	}
}

// TestPlainIsAllThatCounts: what Plain takes away changes neither the answer nor the map.
func TestPlainIsAllThatCounts(t *testing.T) { // P6.1, P6.2
	r := rand.New(rand.NewSource(7))
	for range 2000 {
		m, o := someMap(r, 8), someOp(r)
		one, ret, _ := model.Do(m, o)
		two, again, _ := model.Do(m, model.Plain(o))
		if !slices.Equal(one, two) || !sameRet(ret, again) {
			t.Errorf("Do(%v, %v) = %v, %v; of the plain one %v, %v", m, o, one, ret, two, again)
		}
	}
}

func TestOf(t *testing.T) { // P6.1
	for _, c := range []struct{ pairs, want []api.Pair }{
		{nil, nil}, {[]api.Pair{}, nil}, {list(5, 1), list(5, 1)},
		{list(5, 1, 2, 2, 5, 3), list(2, 2, 5, 3)},
		{list(5, 3, 5, 1, 5, 2), list(5, 2)},
		{list(math.MaxInt, 1, math.MinInt, 2, 0, 3, math.MinInt, 4), list(math.MinInt, 4, 0, 3, math.MaxInt, 1)},
	} {
		if got := model.Of(c.pairs); !slices.Equal(got, c.want) {
			t.Errorf("Of(%v) = %v, want %v", c.pairs, got, c.want)
		}
	}
	r := rand.New(rand.NewSource(8))
	for _, most := range []int{5, 40, 400} { // the sort's way hangs on the length
		for range 300 {
			pairs := somePairs(r, most)
			if got := model.Of(pairs); !slices.Equal(got, holding(pairs).all()) {
				t.Errorf("Of(%v) = %v", pairs, got)
			}
		}
	}
	many := make([]api.Pair, 20000)
	for i := range many {
		many[i] = api.Pair{Key: i * 7919 % 5000, Val: i}
	}
	if got := model.Of(many); !slices.Equal(got, holding(many).all()) {
		t.Errorf("Of 20000 pairs has %d", len(got))
	}
}

func TestFind(t *testing.T) { // P6.1
	m := list(2, 20, 5, 50)
	for _, c := range []struct {
		key, at int
		there   bool
	}{{3, 1, false}, {5, 1, true}, {6, 2, false}, {2, 0, true}, {1, 0, false}, {math.MinInt, 0, false}, {math.MaxInt, 2, false}} {
		if at, there, e := model.Find(m, c.key); at != c.at || there != c.there || e != api.OK {
			t.Errorf("Find(%v, %d) = %d, %v, %d", m, c.key, at, there, e)
		}
	}
	eachMap(func(m []api.Pair) {
		for _, key := range append(edgeKeys(), 7, -9) {
			less, there := 0, false
			for _, p := range m {
				if p.Key < key {
					less++
				}
				there = there || p.Key == key
			}
			if at, is, e := model.Find(m, key); at != less || is != there || e != api.OK {
				t.Errorf("Find(%v, %d) = %d, %v, %d", m, key, at, is, e)
			}
		}
	})
	for _, m := range noMaps() {
		if at, there, e := model.Find(m, 5); at != 0 || there || e != api.ErrOrder {
			t.Errorf("Find(%v, 5) = %d, %v, %d", m, at, there, e)
		}
	}
}

func TestPart(t *testing.T) { // P6.1
	if got, e := model.Part(list(2, 20, 5, 50), 3, 9); !slices.Equal(got, list(5, 50)) || e != api.OK {
		t.Errorf("Part = %v, %d", got, e)
	}
	eachMap(func(m []api.Pair) {
		for _, lo := range append(edgeKeys(), 7) {
			for _, hi := range append(edgeKeys(), 7) {
				want := holding(m).pairs(func(key int) bool { return lo <= key && key <= hi })
				if got, e := model.Part(m, lo, hi); !slices.Equal(got, want) || e != api.OK {
					t.Errorf("Part(%v, %d, %d) = %v, %d", m, lo, hi, got, e)
				}
			}
		}
	})
	for _, m := range noMaps() {
		for _, hi := range []int{0, 9} {
			if got, e := model.Part(m, 1, hi); len(got) != 0 || e != api.ErrOrder {
				t.Errorf("Part(%v, 1, %d) = %v, %d", m, hi, got, e)
			}
		}
	}
}

// differ asks each map of the other's keys.
func differ(a, b []api.Pair) []int {
	x, y := holding(a), holding(b)
	var keys []int
	for _, p := range append(slices.Clone(a), b...) {
		inX, isX := x[p.Key]
		inY, isY := y[p.Key]
		if (isX != isY || inX != inY) && !slices.Contains(keys, p.Key) {
			keys = append(keys, p.Key)
		}
	}
	slices.Sort(keys)
	return keys
}

func TestDiffer(t *testing.T) { // P6.1
	for _, c := range []struct {
		a, b []api.Pair
		want []int
	}{
		{nil, nil, nil}, {[]api.Pair{}, nil, nil},
		{list(1, 1, 2, 2), list(2, 3, 4, 4), []int{1, 2, 4}},
		{list(1, 1, 2, 2), nil, []int{1, 2}}, {nil, list(1, 1, 2, 2), []int{1, 2}},
		{list(1, 1, 2, 2), list(1, 1, 2, 2), nil}, {list(1, 0), list(1, 5), []int{1}}, {list(1, 0), nil, []int{1}},
		{list(math.MinInt, 0), list(math.MaxInt, 0), []int{math.MinInt, math.MaxInt}},
	} {
		if got, e := model.Differ(c.a, c.b); !slices.Equal(got, c.want) || e != api.OK {
			t.Errorf("Differ(%v, %v) = %v, %d", c.a, c.b, got, e)
		}
	}
	r := rand.New(rand.NewSource(9))
	for range 3000 {
		a, b := someMap(r, 8), someMap(r, 8)
		if r.Intn(2) == 0 { // maps with much in common
			b, _, _ = model.Run(a, someOps(r, 4))
		}
		if got, e := model.Differ(a, b); !slices.Equal(got, differ(a, b)) || e != api.OK {
			t.Errorf("Differ(%v, %v) = %v, %d", a, b, got, e)
		}
	}
	for _, wrong := range noMaps() {
		for _, other := range [][]api.Pair{nil, list(2, 20), wrong} {
			one, e1 := model.Differ(wrong, other)
			two, e2 := model.Differ(other, wrong)
			if len(one)+len(two) != 0 || e1 != api.ErrOrder || e2 != api.ErrOrder {
				t.Errorf("Differ of %v and %v = %v, %d; %v, %d", wrong, other, one, e1, two, e2)
			}
		}
	}
}

func TestSame(t *testing.T) { // P6.1
	for _, c := range []struct {
		a, b []api.Pair
		want bool
	}{
		{nil, nil, true}, {nil, []api.Pair{}, true}, {list(1, 1), list(1, 1), true}, {list(5, 1, 2, 2), list(5, 1, 2, 2), true}, {list(5, 1, 5, 1), list(5, 1, 5, 1), true},
		{nil, list(0, 0), false}, {list(1, 1), list(1, 2), false}, {list(1, 1), list(2, 1), false}, {list(1, 1), list(1, 1, 2, 2), false}, {list(5, 1, 2, 2), list(2, 2, 5, 1), false},
	} {
		if model.Same(c.a, c.b) != c.want || model.Same(c.b, c.a) != c.want {
			t.Errorf("Same(%v, %v) isn't %v", c.a, c.b, c.want)
		}
		one, two := api.Ret{Ok: true, Key: 3, Val: 4, Pairs: c.a}, api.Ret{Ok: true, Key: 3, Val: 4, Pairs: c.b}
		if model.SameRet(one, two) != c.want || model.SameRet(two, one) != c.want {
			t.Errorf("SameRet(%v, %v) isn't %v", one, two, c.want)
		}
		for _, other := range []api.Ret{{Key: 3, Val: 4, Pairs: c.b}, {Ok: true, Key: 2, Val: 4, Pairs: c.b}, {Ok: true, Key: 3, Val: 5, Pairs: c.b}} {
			if model.SameRet(one, other) || model.SameRet(other, one) {
				t.Errorf("SameRet(%v, %v)", one, other)
			}
		}
	}
	if !model.SameRet(api.Ret{}, api.Ret{Pairs: []api.Pair{}}) {
		t.Error("SameRet of no pairs, nil and empty")
	}
}
