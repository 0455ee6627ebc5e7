package index_test

import (
	"math"
	"math/rand"
	"slices"
	"testing"

	"larch/api"
	"larch/cell"
	"larch/index"
	"larch/model"
	"larch/seq"
	"larch/table"
	"larch/together"
)

// byName does the operation by the method of its kind.
func byName(h *index.Handle, o api.Op) api.Ret {
	var ret api.Ret
	var p api.Pair
	switch o.Kind {
	case api.Get:
		ret.Val, ret.Ok = h.Get(o.Key)
		return ret
	case api.Put:
		ret.Val, ret.Ok = h.Put(o.Key, o.Val)
		return ret
	case api.PutIfAbsent:
		ret.Val, ret.Ok = h.PutIfAbsent(o.Key, o.Val)
		return ret
	case api.Delete:
		ret.Val, ret.Ok = h.Delete(o.Key)
		return ret
	case api.Range:
		return api.Ret{Ok: true, Pairs: h.Range(o.Key, o.Hi)}
	case api.Successor:
		p, ret.Ok = h.Successor(o.Key)
	case api.Predecessor:
		p, ret.Ok = h.Predecessor(o.Key)
	case api.Min:
		p, ret.Ok = h.Min()
	case api.Max:
		p, ret.Ok = h.Max()
	}
	ret.Key, ret.Val = p.Key, p.Val
	return ret
}

func TestNewAndOf(t *testing.T) { // P24.1
	if got := index.New().Table(); !slices.Equal(got, table.Empty()) {
		t.Errorf("New holds %v", got)
	}
	for _, pairs := range [][]api.Pair{nil, {}, pairsOf(0, 0), pairsOf(2, 1, 1, 2, 3, 3, 2, 4), pairsOf(math.MaxInt, 1, math.MinInt, 2), same(5, 4, 3, 2, 1)} {
		if got := index.Of(pairs).Table(); !slices.Equal(got, grown(t, pairs, nil)) {
			t.Errorf("Of(%v) holds %v", pairs, got)
		}
	}
}

// TestHandlesByChance: all nine kinds, by several handles of one map, with a gate and without, by Do and by name.
func TestHandlesByChance(t *testing.T) { // P24.1
	r := rand.New(rand.NewSource(1))
	for range 300 {
		start := somePairs(r, 8)
		m := index.Of(start)
		tapes := []*cell.Tape{cell.NewTape(), cell.NewTape()}
		handles := []*index.Handle{m.Handle(nil), m.Handle(tapes[0]), m.Handle(tapes[1]), m.Handle(nil)}
		now, tree := model.Of(start), grown(t, start, nil)
		for _, o := range someOps(r, 50) {
			then, want, _ := model.Do(now, o)
			tree, _, _, _ = seq.Do(tree, o)
			before := []int{len(tapes[0].Kinds()), len(tapes[1].Kinds())}
			which := r.Intn(len(handles))
			var got api.Ret
			var e api.Errno
			if r.Intn(2) == 0 {
				got = byName(handles[which], o)
			} else {
				got, e = handles[which].Do(o)
			}
			if e != api.OK || !model.SameRet(got, want) || !slices.Equal(m.Table(), tree) {
				t.Fatalf("%v on %v = %v, %d, want %v; it holds %v", o, now, got, e, want, m.Table())
			}
			for i, tape := range tapes {
				passed := which == i+1 && !(o.Kind == api.Range && o.Key > o.Hi)
				if (len(tape.Kinds()) > before[i]) != passed || slices.Contains(tape.Kinds(), api.Start) {
					t.Fatalf("%v by handle %d: gate %d saw %v", o, which, i, tape.Kinds()[before[i]:])
				}
			}
			now = then
		}
	}
}

func TestDoThatIsRefused(t *testing.T) { // P24.1
	m := index.Of(pairsOf(1, 10, 2, 20))
	before := m.Table()
	for _, kind := range noKinds() {
		tape := cell.NewTape()
		ret, e := m.Handle(tape).Do(api.Op{Kind: kind, Key: 1, Val: 7, Hi: 9})
		if e != api.ErrKind || !model.SameRet(ret, api.Ret{}) || len(tape.Kinds()) != 0 || !slices.Equal(m.Table(), before) {
			t.Errorf("Do of kind %d = %v, %d, kinds %v", kind, ret, e, tape.Kinds())
		}
	}
}

// TestTwoMaps: handles of two maps beside each other.
func TestTwoMaps(t *testing.T) { // P24.6
	r := rand.New(rand.NewSource(2))
	for range 100 {
		start := somePairs(r, 8)
		maps := []*index.Map{index.Of(start), index.Of(start)}
		handles := []*index.Handle{maps[0].Handle(nil), maps[1].Handle(nil)}
		trees := [][]api.Node{grown(t, start, nil), grown(t, start, nil)}
		for _, o := range someOps(r, 30) {
			which := r.Intn(2)
			_, _ = handles[which].Do(o)
			trees[which], _, _, _ = seq.Do(trees[which], o)
			for i, m := range maps {
				if !slices.Equal(m.Table(), trees[i]) {
					t.Fatalf("behind %v of map %d, map %d holds %v", o, which, i, m.Table())
				}
			}
		}
	}
}

// meddler is a gate at which something else happens ahead of the access of that number.
type meddler struct {
	cell.Tape
	at   int
	what func()
}

func (m *meddler) Pass(kind int) {
	if len(m.Kinds()) == m.at {
		m.what()
	}
	m.Tape.Pass(kind)
}

// TestCallsThatAreMeddledWith: another operation comes, all of it, ahead of each access: the answers and the pairs are those of one of the two orders.
func TestCallsThatAreMeddledWith(t *testing.T) { // P24.3
	start := same(2, 4, 3)
	list := ops(least(), greatest(), everything(), rangeOf(2, 3), rangeOf(3, 9))
	for key := 1; key <= 5; key++ {
		list = append(list, get(key), put(key, 7), ifAbsent(key, 8), del(key), after(key), before(key))
	}
	again := 0
	for _, o := range list {
		for _, other := range list {
			if !model.Changes(other.Kind) {
				continue
			}
			tape := cell.NewTape()
			_, _ = index.Of(start).Handle(tape).Do(o)
			for at := range tape.Kinds() {
				x := index.Of(start)
				var meanwhile api.Ret
				m := &meddler{at: at, what: func() { meanwhile = byName(x.Handle(nil), other) }}
				got := byName(x.Handle(m), o)
				left := pairsIn(t, x.Table())
				left1, rets1, _ := model.Run(model.Of(start), ops(o, other))
				left2, rets2, _ := model.Run(model.Of(start), ops(other, o))
				ahead := model.SameRet(got, rets1[0]) && model.SameRet(meanwhile, rets1[1]) && slices.Equal(left, left1)
				behind := model.SameRet(got, rets2[1]) && model.SameRet(meanwhile, rets2[0]) && slices.Equal(left, left2)
				if !ahead && !behind {
					t.Fatalf("%v, ahead of its access %d %v: %v, %v, left %v", o, at, other, got, meanwhile, left)
				}
				wantTree(t, x.Table(), 0)
				if len(m.Kinds()) > len(tape.Kinds()) {
					again++
				}
			}
		}
	}
	if again < 300 {
		t.Errorf("%d operations were disturbed: the test sees too little", again)
	}
}

// TestNoMap: a map that New hasn't made, and a handle that no map has made, are like those of an empty map that keeps nothing.
func TestNoMap(t *testing.T) { // P24.1
	for _, m := range []*index.Map{nil, new(index.Map)} {
		h := m.Handle(nil)
		h.Put(1, 1)
		if !slices.Equal(m.Table(), table.Empty()) {
			t.Errorf("it holds %v", m.Table())
		}
	}
	for _, h := range []*index.Handle{nil, new(index.Handle)} {
		for _, o := range ops(get(1), put(1, 1), ifAbsent(1, 1), del(1), after(1), before(1), least(), greatest(), everything()) {
			_, want, _ := model.Do(nil, o)
			if got, e := h.Do(o); e != api.OK || !model.SameRet(got, want) || !model.SameRet(byName(h, o), want) {
				t.Errorf("%v = %v, %d", o, got, e)
			}
		}
		for key := range h.All() {
			t.Errorf("All gives %d", key)
		}
		for key := range h.Up(math.MinInt) {
			t.Errorf("Up gives %d", key)
		}
		for key := range h.Down(math.MaxInt) {
			t.Errorf("Down gives %d", key)
		}
		if _, e := h.Do(api.Op{Kind: 10}); e != api.ErrKind {
			t.Errorf("kind 10: %d", e)
		}
	}
}

// TestMapInACrowd: goroutines all at once, without a gate, all nine operations and the loops: each key came as often as it went, or once more; what is read is in order, and of values that were put.
func TestMapInACrowd(t *testing.T) { // P24.3, P24.4
	const crowd, each, keys = 8, 2500, 40
	m := index.New()
	came := make([][keys]int, crowd)
	together.Run(crowd, func(who int) {
		r := rand.New(rand.NewSource(int64(who)))
		h := m.Handle(nil)
		isPair := func(p api.Pair) bool { return p.Key >= 0 && p.Key < keys && p.Val%keys == p.Key }
		for range each {
			key := r.Intn(keys)
			switch r.Intn(10) {
			case 0:
				if _, had := h.Put(key, who*keys+key); !had {
					came[who][key]++
				}
			case 1:
				if _, was := h.PutIfAbsent(key, who*keys+key); was {
					came[who][key]++
				}
			case 2, 3:
				if _, had := h.Delete(key); had {
					came[who][key]--
				}
			case 4:
				if val, has := h.Get(key); has && !isPair(api.Pair{Key: key, Val: val}) {
					t.Errorf("Get(%d) = %d", key, val)
				}
			case 5:
				if p, ok := h.Successor(key); ok && (!isPair(p) || p.Key <= key) {
					t.Errorf("Successor(%d) = %v", key, p)
				}
			case 6:
				if p, ok := h.Predecessor(key); ok && (!isPair(p) || p.Key >= key) {
					t.Errorf("Predecessor(%d) = %v", key, p)
				}
			case 7:
				list := h.Range(key, key+9)
				if model.Check(list) != api.OK || len(list) > 10 || slices.ContainsFunc(list, func(p api.Pair) bool { return !isPair(p) || p.Key < key || p.Key > key+9 }) {
					t.Errorf("Range(%d, %d) = %v", key, key+9, list)
				}
			case 8:
				last := key - 1
				for up, val := range h.Up(key) {
					if up <= last || !isPair(api.Pair{Key: up, Val: val}) {
						t.Errorf("Up(%d): %d behind %d", key, up, last)
					}
					last = up
				}
			case 9:
				last := key + 1
				for down, val := range h.Down(key) {
					if down >= last || !isPair(api.Pair{Key: down, Val: val}) {
						t.Errorf("Down(%d): %d behind %d", key, down, last)
					}
					last = down
				}
			}
		}
	})
	wantTree(t, m.Table(), 0)
	for key := range keys {
		there := 0
		for who := range crowd {
			there += came[who][key]
		}
		_, has := m.Handle(nil).Get(key)
		if there != 0 && there != 1 || has != (there == 1) {
			t.Errorf("key %d came %d times more than it went; is it there: %v", key, there, has)
		}
	}
}
