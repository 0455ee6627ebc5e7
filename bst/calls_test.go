package bst_test

import (
	"math"
	"math/rand"
	"slices"
	"testing"

	"larch/api"
	"larch/bst"
	"larch/cell"
	"larch/model"
	"larch/table"
	"larch/together"
)

// byName does the operation by the method of its kind.
func byName(b *bst.Tree, g cell.Gate, o api.Op) api.Ret {
	var ret api.Ret
	switch o.Kind {
	case api.Get:
		ret.Val, ret.Ok = b.Get(g, o.Key)
	case api.Put:
		ret.Val, ret.Ok = b.Put(g, o.Key, o.Val)
	case api.PutIfAbsent:
		ret.Val, ret.Ok = b.PutIfAbsent(g, o.Key, o.Val)
	case api.Delete:
		ret.Val, ret.Ok = b.Delete(g, o.Key)
	}
	return ret
}

func TestNewAndOf(t *testing.T) { // P21.1
	if got := bst.New().Table(); !slices.Equal(got, table.Empty()) {
		t.Errorf("New holds %v", got)
	}
	for _, pairs := range [][]api.Pair{nil, {}, pairsOf(0, 0), pairsOf(2, 1, 1, 2, 3, 3, 2, 4), pairsOf(math.MaxInt, 1, math.MinInt, 2)} {
		want, _ := table.Read(grown(pairs, nil).text())
		if got := bst.Of(pairs).Table(); !slices.Equal(got, want) {
			t.Errorf("Of(%v) holds %v", pairs, got)
		}
	}
}

// TestCallsByChance: by Do and by name, without a gate and through a Tape.
func TestCallsByChance(t *testing.T) { // P21.1, P21.5
	r := rand.New(rand.NewSource(5))
	for range 300 {
		pairs := somePairs(r, 6)
		b, tree, now := bst.Of(pairs), grown(pairs, nil), model.Of(pairs)
		for _, o := range someOps(r, 60) {
			then, want, _ := model.Do(now, o)
			tape := cell.NewTape()
			gates := []cell.Gate{nil, tape}
			which := r.Intn(2)
			var got api.Ret
			var e api.Errno
			if r.Intn(2) == 0 {
				got = byName(b, gates[which], o)
			} else {
				got, e = b.Do(gates[which], o)
			}
			tree = tree.behind(o)
			text, _ := table.Text(b.Table())
			if e != api.OK || !model.SameRet(got, want) || text != tree.text() {
				t.Fatalf("%v on %v = %v, %d, want %v; it holds %s", o, now, got, e, want, text)
			}
			if (len(tape.Kinds()) > 0) != (which == 1) || slices.Contains(tape.Kinds(), api.Start) {
				t.Fatalf("%v passes its gate with %v", o, tape.Kinds())
			}
			now = then
		}
	}
}

func TestDoThatIsRefused(t *testing.T) { // P21.1
	b := bst.Of(pairsOf(1, 10, 2, 20))
	before := b.Table()
	for _, kind := range noKinds() {
		tape := cell.NewTape()
		ret, e := b.Do(tape, api.Op{Kind: kind, Key: 1, Val: 7, Hi: 9})
		if e != api.ErrKind || !model.SameRet(ret, api.Ret{}) || len(tape.Kinds()) != 0 || !slices.Equal(b.Table(), before) {
			t.Errorf("Do of kind %d = %v, %d, kinds %v", kind, ret, e, tape.Kinds())
		}
	}
}

// meddler is a gate at which something else happens ahead of the access of that number.
type meddler struct {
	cell.Tape
	at   int
	what func()
}

func (m *meddler) Pass(kind int) {
	if len(m.Kinds()) == m.at {
		m.what()
	}
	m.Tape.Pass(kind)
}

// TestCallsThatAreMeddledWith: another operation comes, all of it, ahead of each access: the answers and the tree are those of one of the two orders.
func TestCallsThatAreMeddledWith(t *testing.T) { // P21.2, P21.3
	start := pairsOf(2, 20, 4, 40, 3, 30)
	var list []api.Op
	for key := 1; key <= 5; key++ {
		list = append(list, get(key), put(key, 7), ifAbsent(key, 8), del(key))
	}
	again := 0
	for _, o := range list {
		for _, other := range list {
			alone := accesses(t, start, o) - 1
			for at := range alone {
				b := bst.Of(start)
				var meanwhile api.Ret
				m := &meddler{at: at, what: func() { meanwhile = byName(b, nil, other) }}
				got := byName(b, m, o)
				left, _ := table.Pairs(b.Table())
				left1, rets1, _ := model.Run(model.Of(start), ops(o, other))
				left2, rets2, _ := model.Run(model.Of(start), ops(other, o))
				ahead := model.SameRet(got, rets1[0]) && model.SameRet(meanwhile, rets1[1]) && slices.Equal(left, left1)
				behind := model.SameRet(got, rets2[1]) && model.SameRet(meanwhile, rets2[0]) && slices.Equal(left, left2)
				if !ahead && !behind {
					t.Fatalf("%v, ahead of its access %d %v: %v, %v, left %v", o, at, other, got, meanwhile, left)
				}
				wantTree(t, b.Table())
				if len(m.Kinds()) > alone {
					again++
				}
			}
		}
	}
	if again < 300 {
		t.Errorf("%d operations were disturbed: the test sees too little", again)
	}
}

// TestCallsOfNoTree: one that New hasn't made is like an empty one that keeps nothing.
func TestCallsOfNoTree(t *testing.T) { // P21.1
	for _, b := range []*bst.Tree{nil, new(bst.Tree)} {
		for _, o := range ops(get(1), put(1, 1), ifAbsent(1, 1), del(1)) {
			_, want, _ := model.Do(nil, o)
			if got, e := b.Do(nil, o); e != api.OK || !model.SameRet(got, want) || !slices.Equal(b.Table(), table.Empty()) {
				t.Errorf("%v = %v, %d, left %v", o, got, e, b.Table())
			}
		}
		if _, e := b.Do(nil, api.Op{Kind: api.Max}); e != api.ErrKind {
			t.Errorf("Max: %d", e)
		}
	}
}

// TestTreeInACrowd: goroutines all at once, without a gate: each key came as often as it went, or once more.
func TestTreeInACrowd(t *testing.T) { // P21.2, P21.3
	const crowd, each, keys = 8, 3000, 12
	b := bst.New()
	came := make([][keys]int, crowd)
	together.Run(crowd, func(who int) {
		r := rand.New(rand.NewSource(int64(who)))
		for range each {
			key := r.Intn(keys)
			switch r.Intn(4) {
			case 0:
				if _, had := b.Put(nil, key, who); !had {
					came[who][key]++
				}
			case 1:
				if _, was := b.PutIfAbsent(nil, key, who); was {
					came[who][key]++
				}
			case 2:
				if _, had := b.Delete(nil, key); had {
					came[who][key]--
				}
			case 3:
				if val, has := b.Get(nil, key); has && (val < 0 || val >= crowd) {
					t.Errorf("Get(%d) = %d", key, val)
				}
			}
		}
	})
	wantTree(t, b.Table())
	for key := range keys {
		there := 0
		for who := range crowd {
			there += came[who][key]
		}
		_, has := b.Get(nil, key)
		if there != 0 && there != 1 || has != (there == 1) {
			t.Errorf("key %d came %d times more than it went; is it there: %v", key, there, has)
		}
	}
}
