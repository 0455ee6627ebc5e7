package chain_test

import (
	"math"
	"math/rand"
	"slices"
	"testing"

	"larch/api"
	"larch/cell"
	"larch/chain"
	"larch/model"
	"larch/together"
)

func mustNew(t *testing.T, pairs []api.Pair) *chain.Chain {
	t.Helper()
	c, e := chain.New(pairs)
	if e != api.OK || c == nil {
		t.Fatalf("New(%v) = %v, %d", pairs, c, e)
	}
	return c
}

func TestNewHoldsItsPairs(t *testing.T) { // P15.5
	for _, pairs := range [][]api.Pair{nil, {}, chainOf(0, 0), chainOf(math.MinInt, 1, 0, 0, math.MaxInt, 2), longMap(5000)} {
		c := mustNew(t, pairs)
		if !slices.Equal(c.Pairs(), pairs) || !slices.Equal(c.Range(nil, math.MinInt, math.MaxInt), pairs) {
			t.Errorf("New of %d pairs holds %v", len(pairs), c.Pairs())
		}
	}
}

func TestNewThatIsRefused(t *testing.T) { // P15.5
	for _, pairs := range [][]api.Pair{chainOf(2, 2, 1, 1), chainOf(1, 1, 1, 1), chainOf(1, 1, 2, 2, 2, 3), chainOf(math.MaxInt, 0, math.MinInt, 0), make([]api.Pair, 1001)} {
		if c, e := chain.New(pairs); c != nil || e != api.ErrOrder {
			t.Errorf("New(%v) = %v, %d", pairs, c, e)
		}
	}
}

// byName does the operation by the method of its kind.
func byName(c *chain.Chain, g cell.Gate, o api.Op) api.Ret {
	var ret api.Ret
	switch o.Kind {
	case api.Get:
		ret.Val, ret.Ok = c.Get(g, o.Key)
	case api.Put:
		ret.Val, ret.Ok = c.Put(g, o.Key, o.Val)
	case api.PutIfAbsent:
		ret.Val, ret.Ok = c.PutIfAbsent(g, o.Key, o.Val)
	case api.Delete:
		ret.Val, ret.Ok = c.Delete(g, o.Key)
	case api.Range:
		ret.Pairs, ret.Ok = c.Range(g, o.Key, o.Hi), true
	}
	return ret
}

// TestCallsByChance: by Do and by name, without a gate and through a Tape: all answer as the model, and pass their gate as the table says.
func TestCallsByChance(t *testing.T) { // P15.5
	r := rand.New(rand.NewSource(2))
	for range 300 {
		now := somePairs(r, 6)
		c := mustNew(t, now)
		for range 60 {
			o := someOp(r)
			then, want, _ := model.Do(now, o)
			tape := cell.NewTape()
			var g cell.Gate
			gated := r.Intn(2) == 0
			if gated {
				g = tape
			}
			var got api.Ret
			var e api.Errno
			if r.Intn(2) == 0 {
				got = byName(c, g, o)
			} else {
				got, e = c.Do(g, o)
			}
			if e != api.OK || !model.SameRet(got, want) || !slices.Equal(c.Pairs(), then) {
				t.Fatalf("%v on %v = %v, %d, want %v; it holds %v", o, now, got, e, want, c.Pairs())
			}
			if gated && !slices.Equal(tape.Kinds(), kindsOf(now, o)) {
				t.Fatalf("%v on %v: kinds %v, want %v", o, now, tape.Kinds(), kindsOf(now, o))
			}
			now = then
		}
	}
}

func TestDoThatIsRefused(t *testing.T) { // P15.5
	c := mustNew(t, chainOf(1, 10, 2, 20))
	for _, kind := range noKinds() {
		tape := cell.NewTape()
		ret, e := c.Do(tape, api.Op{Kind: kind, Key: 1, Val: 7, Hi: 9})
		if e != api.ErrKind || !model.SameRet(ret, api.Ret{}) || len(tape.Kinds()) != 0 || !slices.Equal(c.Pairs(), chainOf(1, 10, 2, 20)) {
			t.Errorf("Do of kind %d = %v, %d, kinds %v, left %v", kind, ret, e, tape.Kinds(), c.Pairs())
		}
	}
}

func TestRangeOfNothing(t *testing.T) { // P15.5
	c := mustNew(t, chainOf(1, 10))
	for _, ends := range [][2]int{{2, 1}, {math.MaxInt, math.MinInt}, {1, 0}} {
		tape := cell.NewTape()
		if got := c.Range(tape, ends[0], ends[1]); len(got) != 0 || len(tape.Kinds()) != 0 {
			t.Errorf("Range of %v = %v, kinds %v", ends, got, tape.Kinds())
		}
	}
}

// meddler is a gate at which something else happens ahead of the access of that number.
type meddler struct {
	cell.Tape
	at   int
	what func()
}

func (m *meddler) Pass(kind int) {
	if len(m.Kinds()) == m.at {
		m.what()
	}
	m.Tape.Pass(kind)
}

// TestCallsThatAreMeddledWith: another operation comes, all of it, ahead of each access: the answer is that of one of the two orders.
func TestCallsThatAreMeddledWith(t *testing.T) { // P15.5
	pairs := chainOf(1, 10, 2, 20, 3, 30)
	again := 0
	for _, o := range append(littleOps(), put(0, 1), ifAbsent(4, 4), del(3), between(math.MinInt, math.MaxInt)) {
		for _, other := range append(littleOps(), put(0, 2), put(4, 5)) {
			for at := range kindsOf(pairs, o) {
				c := mustNew(t, pairs)
				var meanwhile api.Ret
				m := &meddler{at: at, what: func() { meanwhile = byName(c, nil, other) }}
				got := byName(c, m, o)
				left1, rets1, _ := model.Run(pairs, ops(o, other))
				left2, rets2, _ := model.Run(pairs, ops(other, o))
				ahead := model.SameRet(got, rets1[0]) && model.SameRet(meanwhile, rets1[1]) && slices.Equal(c.Pairs(), left1)
				behind := model.SameRet(got, rets2[1]) && model.SameRet(meanwhile, rets2[0]) && slices.Equal(c.Pairs(), left2)
				if !ahead && !behind {
					t.Fatalf("%v, ahead of its access %d %v: %v, %v, left %v", o, at, other, got, meanwhile, c.Pairs())
				}
				if len(m.Kinds()) > len(kindsOf(pairs, o)) {
					again++
				}
			}
		}
	}
	if again < 500 {
		t.Errorf("%d operations were disturbed: the test sees too little", again)
	}
}

// TestCallsOfNoChain: one that New hasn't made is like an empty one that keeps nothing.
func TestCallsOfNoChain(t *testing.T) { // P15.5
	for _, c := range []*chain.Chain{nil, new(chain.Chain)} {
		for _, o := range littleOps() {
			_, want, _ := model.Do(nil, o)
			tape := cell.NewTape()
			if got, e := c.Do(tape, o); e != api.OK || !model.SameRet(got, want) || !slices.Equal(tape.Kinds(), kindsOf(nil, o)) || len(c.Pairs()) != 0 {
				t.Errorf("%v = %v, %d, kinds %v, left %v", o, got, e, tape.Kinds(), c.Pairs())
			}
		}
		if _, e := c.Do(nil, api.Op{Kind: api.Max}); e != api.ErrKind {
			t.Errorf("Max: %d", e)
		}
	}
}

// TestChainInACrowd: goroutines all at once, without a gate: each key is put once more than it is deleted, or as often; ranges rise.
func TestChainInACrowd(t *testing.T) { // P15.3
	const crowd, each, keys = 8, 400, 6
	c := mustNew(t, nil)
	came, went := make([][keys]int, crowd), make([][keys]int, crowd)
	together.Run(crowd, func(who int) {
		r := rand.New(rand.NewSource(int64(who)))
		for range each {
			key := r.Intn(keys)
			switch r.Intn(4) {
			case 0:
				if _, had := c.Put(nil, key, who); !had {
					came[who][key]++
				}
			case 1:
				if _, was := c.PutIfAbsent(nil, key, who); was {
					came[who][key]++
				}
			case 2:
				if _, had := c.Delete(nil, key); had {
					went[who][key]++
				}
			case 3:
				if got := c.Range(nil, 0, key); model.Check(got) != api.OK {
					t.Errorf("Range = %v", got)
				}
			}
		}
	})
	for key := range keys {
		there := 0
		for who := range crowd {
			there += came[who][key] - went[who][key]
		}
		_, has := c.Get(nil, key)
		if there != 0 && there != 1 || has != (there == 1) {
			t.Errorf("key %d came %d times more than it went; it is there: %v", key, there, has)
		}
	}
	if model.Check(c.Pairs()) != api.OK {
		t.Errorf("left %v", c.Pairs())
	}
}
