package queue_test

import (
	"math"
	"slices"
	"sync"
	"testing"

	"larch/api"
	"larch/cell"
	"larch/queue"
)

func TestNewHoldsItsValues(t *testing.T) { // P10.1
	for _, vals := range [][]int{nil, {}, {7}, {1, 2, 3}, {5, 5, math.MinInt, math.MaxInt}, make([]int, 5000)} {
		q := queue.New(vals)
		if !slices.Equal(q.Items(), vals) || q.Lag() != 0 {
			t.Errorf("New(%v) holds %v, its tail stands %d back", vals, q.Items(), q.Lag())
		}
		for _, want := range vals {
			if v, ok := q.Take(nil); v != want || !ok {
				t.Fatalf("Take = %d, %v, want %d", v, ok, want)
			}
		}
		if v, ok := q.Take(nil); v != 0 || ok {
			t.Errorf("Take of none = %d, %v", v, ok)
		}
	}
}

func TestCallsWithoutAGate(t *testing.T) { // P10.2
	q := queue.New([]int{1})
	q.Put(nil, 2)
	q.Put(nil, 2)
	if !slices.Equal(q.Items(), []int{1, 2, 2}) || q.Lag() != 0 {
		t.Errorf("it holds %v, its tail stands %d back", q.Items(), q.Lag())
	}
	for _, c := range []struct {
		op   api.Op
		want api.Ret
	}{
		{take, api.Ret{Ok: true, Val: 1}}, {put(-3), api.Ret{Ok: true}}, {take, api.Ret{Ok: true, Val: 2}}, {take, api.Ret{Ok: true, Val: 2}},
		{api.Op{Kind: 2, Key: 9, Val: 9, Hi: 9}, api.Ret{Ok: true, Val: -3}}, {take, api.Ret{}}, {take, api.Ret{}}, {api.Op{Kind: 1, Key: 9, Val: 0, Hi: 9}, api.Ret{Ok: true}}, {take, api.Ret{Ok: true}},
	} {
		if ret, e := q.Do(nil, c.op); e != api.OK || !sameRet(ret, c.want) {
			t.Errorf("Do(%v) = %v, %d, want %v", c.op, ret, e, c.want)
		}
	}
}

func TestDoThatIsRefused(t *testing.T) { // P10.2
	q := queue.New([]int{4})
	for _, kind := range []int{0, 3, -1, 9, math.MinInt, math.MaxInt} {
		tape := cell.NewTape()
		if ret, e := q.Do(tape, api.Op{Kind: kind, Val: 1}); e != api.ErrKind || !sameRet(ret, api.Ret{}) || len(tape.Kinds()) != 0 {
			t.Errorf("Do of kind %d = %v, %d, kinds %v", kind, ret, e, tape.Kinds())
		}
	}
	if !slices.Equal(q.Items(), []int{4}) {
		t.Errorf("it holds %v", q.Items())
	}
}

// meddler is a gate at which something else happens ahead of chosen accesses.
type meddler struct {
	kinds []int
	at    map[int]func() // by the number of the access
}

func (m *meddler) Pass(kind int) {
	m.kinds = append(m.kinds, kind)
	if meddle := m.at[len(m.kinds)-1]; meddle != nil {
		meddle()
	}
}

func TestCallsThatAreMeddledWith(t *testing.T) { // P10.1
	q := queue.New(nil)
	m := &meddler{at: map[int]func(){2: func() { q.Put(nil, 8) }}}
	q.Put(m, 9)
	if !slices.Equal(q.Items(), []int{8, 9}) || !slices.Equal(m.kinds, []int{api.Load, api.Load, api.Cas, api.Load, api.Load, api.Cas, api.Cas}) {
		t.Errorf("Put: %v, kinds %v", q.Items(), m.kinds)
	}
	m = &meddler{at: map[int]func(){3: func() { q.Take(nil) }}}
	if v, ok := q.Take(m); v != 9 || !ok || !slices.Equal(m.kinds, []int{api.Load, api.Load, api.Load, api.Cas, api.Load, api.Load, api.Load, api.Cas}) {
		t.Errorf("Take = %d, %v, kinds %v", v, ok, m.kinds)
	}
	inner := func() { q.Put(nil, 1); q.Take(nil) }
	m = &meddler{at: map[int]func(){2: inner}}
	q.Put(m, 2) // the link that it loaded has gone meanwhile, and its next is taken
	if !slices.Equal(q.Items(), []int{2}) || q.Lag() != 0 || len(m.kinds) != 7 {
		t.Errorf("Put behind what has gone: %v, Lag %d, kinds %v", q.Items(), q.Lag(), m.kinds)
	}
}

// TestLagIsSeen: between the two Cas of a Put the tail stands back, and Items has the value already.
func TestLagIsSeen(t *testing.T) { // P10.1
	q := queue.New([]int{1})
	var lags []int
	var items [][]int
	look := func() { lags, items = append(lags, q.Lag()), append(items, q.Items()) }
	q.Put(&meddler{at: map[int]func(){0: look, 1: look, 2: look, 3: look}}, 2)
	look()
	if !slices.Equal(lags, []int{0, 0, 0, 1, 0}) || !slices.Equal(items[2], []int{1}) || !slices.Equal(items[3], []int{1, 2}) {
		t.Errorf("lags %v, items %v", lags, items)
	}
}

// TestCallsOfNoQueue: one that New hasn't made is like an empty one that keeps nothing.
func TestCallsOfNoQueue(t *testing.T) { // P10.2
	for _, q := range []*queue.Queue{nil, new(queue.Queue)} {
		tape := cell.NewTape()
		q.Put(tape, 1)
		v, ok := q.Take(tape)
		ret, e := q.Do(tape, put(3))
		if v != 0 || ok || !ret.Ok || e != api.OK || len(q.Items())+q.Lag() != 0 {
			t.Errorf("Take = %d, %v; Do = %v, %d; it holds %v", v, ok, ret, e, q.Items())
		}
		if _, e := q.Do(tape, api.Op{Kind: 3}); e != api.ErrKind {
			t.Errorf("Do of kind 3: %d", e)
		}
	}
}

// TestQueueInACrowd: goroutines all at once, without a gate: each number is taken once, or is left.
func TestQueueInACrowd(t *testing.T) { // P10.6
	const crowd, each = 16, 1000
	q := queue.New(nil)
	took := make([][]int, crowd)
	var joined sync.WaitGroup
	for who := range crowd {
		joined.Go(func() {
			for number := range each {
				q.Put(nil, who*each+number)
				if v, ok := q.Take(nil); ok && number%3 != 0 {
					took[who] = append(took[who], v)
				} else if ok {
					q.Put(nil, v)
				}
			}
		})
	}
	joined.Wait()
	everything := append(slices.Concat(took...), q.Items()...)
	slices.Sort(everything)
	for i, v := range everything {
		if i != v {
			t.Fatalf("number %d comes in the place of %d", v, i)
		}
	}
	if len(everything) != crowd*each || q.Lag() != 0 {
		t.Errorf("%d numbers of %d; Lag %d", len(everything), crowd*each, q.Lag())
	}
}
