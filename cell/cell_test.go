package cell_test

import (
	"math"
	"slices"
	"sync"
	"testing"

	"larch/api"
	"larch/cell"
)

// shown is what a call of an access answered, as one comparable thing.
type shown struct {
	answer any
	left   any // what is held then
}

// access is one call of a method, on something made anew: what it does through g, and how to look at what is held.
type access struct {
	name string
	kind int
	make func() (do func(g cell.Gate) any, look func() any)
	want shown
	at   any // what is held at first
}

var first, second = new(int), new(int) // equal, and made apart

func onCell(do func(c *cell.Cell[int], g cell.Gate) any) func() (func(cell.Gate) any, func() any) {
	return func() (func(cell.Gate) any, func() any) {
		c := cell.New(first)
		return func(g cell.Gate) any { return do(c, g) }, func() any { return c.Load(nil) }
	}
}

func onNum(do func(c *cell.Num, g cell.Gate) any) func() (func(cell.Gate) any, func() any) {
	return func() (func(cell.Gate) any, func() any) {
		c := cell.NewNum(12)
		return func(g cell.Gate) any { return do(c, g) }, func() any { return c.Load(nil) }
	}
}

func onMark(do func(c *cell.Mark, g cell.Gate) any) func() (func(cell.Gate) any, func() any) {
	return func() (func(cell.Gate) any, func() any) {
		c := cell.NewMark(true)
		return func(g cell.Gate) any { return do(c, g) }, func() any { return c.Load(nil) }
	}
}

// accesses: the chapter's table, one row or more for each method.
func accesses() []access {
	none := (*int)(nil)
	return []access{
		{"cell Load", api.Load, onCell(func(c *cell.Cell[int], g cell.Gate) any { return c.Load(g) }), shown{first, first}, first},
		{"cell Store", api.Store, onCell(func(c *cell.Cell[int], g cell.Gate) any { c.Store(g, second); return nil }), shown{nil, second}, first},
		{"cell Store nil", api.Store, onCell(func(c *cell.Cell[int], g cell.Gate) any { c.Store(g, nil); return nil }), shown{nil, none}, first},
		{"cell Swap", api.Swap, onCell(func(c *cell.Cell[int], g cell.Gate) any { return c.Swap(g, second) }), shown{first, second}, first},
		{"cell Cas", api.Cas, onCell(func(c *cell.Cell[int], g cell.Gate) any { return c.Cas(g, first, second) }), shown{true, second}, first},
		{"cell Cas to nil", api.Cas, onCell(func(c *cell.Cell[int], g cell.Gate) any { return c.Cas(g, first, nil) }), shown{true, none}, first},
		{"cell Cas of another", api.Cas, onCell(func(c *cell.Cell[int], g cell.Gate) any { return c.Cas(g, second, nil) }), shown{false, first}, first},
		{"cell Cas of nil", api.Cas, onCell(func(c *cell.Cell[int], g cell.Gate) any { return c.Cas(g, nil, second) }), shown{false, first}, first},
		{"num Load", api.Load, onNum(func(c *cell.Num, g cell.Gate) any { return c.Load(g) }), shown{12, 12}, 12},
		{"num Store", api.Store, onNum(func(c *cell.Num, g cell.Gate) any { c.Store(g, -7); return nil }), shown{nil, -7}, 12},
		{"num Add", api.Add, onNum(func(c *cell.Num, g cell.Gate) any { return c.Add(g, -20) }), shown{-8, -8}, 12},
		{"num Swap", api.Swap, onNum(func(c *cell.Num, g cell.Gate) any { return c.Swap(g, 9) }), shown{12, 9}, 12},
		{"num Cas", api.Cas, onNum(func(c *cell.Num, g cell.Gate) any { return c.Cas(g, 12, 9) }), shown{true, 9}, 12},
		{"num Cas of another", api.Cas, onNum(func(c *cell.Num, g cell.Gate) any { return c.Cas(g, 13, 9) }), shown{false, 12}, 12},
		{"num And", api.And, onNum(func(c *cell.Num, g cell.Gate) any { return c.And(g, 6) }), shown{12, 4}, 12},
		{"num Or", api.Or, onNum(func(c *cell.Num, g cell.Gate) any { return c.Or(g, 3) }), shown{12, 15}, 12},
		{"mark Load", api.Load, onMark(func(c *cell.Mark, g cell.Gate) any { return c.Load(g) }), shown{true, true}, true},
		{"mark Store", api.Store, onMark(func(c *cell.Mark, g cell.Gate) any { c.Store(g, false); return nil }), shown{nil, false}, true},
		{"mark Swap", api.Swap, onMark(func(c *cell.Mark, g cell.Gate) any { return c.Swap(g, false) }), shown{true, false}, true},
		{"mark Cas", api.Cas, onMark(func(c *cell.Mark, g cell.Gate) any { return c.Cas(g, true, false) }), shown{true, false}, true},
		{"mark Cas of another", api.Cas, onMark(func(c *cell.Mark, g cell.Gate) any { return c.Cas(g, false, false) }), shown{false, true}, true},
	}
}

// gateFunc is a gate of a test.
type gateFunc func(kind int)

func (f gateFunc) Pass(kind int) { f(kind) }

func TestAccesses(t *testing.T) { // P2.2
	for _, a := range accesses() {
		do, look := a.make()
		if got := (shown{do(nil), look()}); got != a.want {
			t.Errorf("%s through nil: %v, want %v", a.name, got, a.want)
		}
		do, look = a.make()
		tape := cell.NewTape()
		if got := (shown{do(tape), look()}); got != a.want {
			t.Errorf("%s through a Tape: %v, want %v", a.name, got, a.want)
		}
		if !slices.Equal(tape.Kinds(), []int{a.kind}) {
			t.Errorf("%s: the Tape's kinds are %v", a.name, tape.Kinds())
		}
	}
}

func TestGateComesFirst(t *testing.T) { // P2.2
	for _, a := range accesses() {
		do, look := a.make()
		var kinds []int
		do(gateFunc(func(kind int) {
			kinds = append(kinds, kind)
			if look() != a.at {
				t.Errorf("%s: it was done ahead of its gate", a.name)
			}
		}))
		if !slices.Equal(kinds, []int{a.kind}) || look() != a.want.left {
			t.Errorf("%s: the gate saw %v; it holds %v", a.name, kinds, look())
		}
	}
}

func TestGateThatPanics(t *testing.T) { // P2.4
	for _, a := range accesses() {
		do, look := a.make()
		thrown := func() (v any) {
			defer func() { v = recover() }()
			do(gateFunc(func(kind int) { panic(kind + 100) }))
			return nil
		}()
		if thrown != a.kind+100 || look() != a.at {
			t.Errorf("%s: it threw %v; it holds %v", a.name, thrown, look())
		}
	}
}

func TestTape(t *testing.T) { // P2.2
	tape := cell.NewTape()
	if len(tape.Kinds()) != 0 {
		t.Errorf("a new Tape has noted %v", tape.Kinds())
	}
	n, m, c := cell.NewNum(0), cell.NewMark(false), cell.New(first)
	n.Add(tape, 1)
	m.Swap(tape, true)
	c.Load(nil)
	c.Cas(tape, second, nil)
	early := tape.Kinds()
	n.Or(tape, 1)
	tape.Pass(-3)
	if want := []int{api.Add, api.Swap, api.Cas}; !slices.Equal(early, want) {
		t.Errorf("Kinds = %v, want %v", early, want)
	}
	if want := []int{api.Add, api.Swap, api.Cas, api.Or, -3}; !slices.Equal(tape.Kinds(), want) {
		t.Errorf("Kinds = %v, want %v", tape.Kinds(), want)
	}
}

func TestZeroThings(t *testing.T) { // P2.2
	var c cell.Cell[string]
	var n cell.Num
	var m cell.Mark
	var tape cell.Tape
	if c.Load(&tape) != nil || n.Load(&tape) != 0 || m.Load(&tape) || len(tape.Kinds()) != 3 {
		t.Errorf("the zero cell, number, mark or Tape isn't empty")
	}
	if !c.Cas(nil, nil, new(string)) || c.Load(nil) == nil || c.Cas(nil, nil, nil) {
		t.Errorf("Cas from nil")
	}
	if cell.New[int](nil).Load(nil) != nil || cell.NewNum(math.MinInt).Load(nil) != math.MinInt || cell.NewMark(false).Load(nil) {
		t.Errorf("a new thing holds something else than it was given")
	}
}

func TestNilThings(t *testing.T) { // no call panics, whatever it is given
	var c *cell.Cell[int]
	var n *cell.Num
	var m *cell.Mark
	var tape *cell.Tape
	c.Store(tape, first)
	n.Store(tape, 4)
	m.Store(tape, true)
	if c.Load(tape) != nil || c.Swap(tape, first) != nil || c.Cas(tape, first, nil) {
		t.Errorf("a nil cell holds something")
	}
	if n.Load(tape) != 0 || n.Add(tape, 2) != 2 || n.Swap(tape, 3) != 0 || n.Cas(tape, 3, 4) || n.And(tape, 1) != 0 || n.Or(tape, 1) != 0 {
		t.Errorf("a nil number holds something")
	}
	if m.Load(tape) || m.Swap(tape, true) || m.Cas(tape, true, false) {
		t.Errorf("a nil mark is set")
	}
	if len(tape.Kinds()) != 0 {
		t.Errorf("a nil Tape has noted %v", tape.Kinds())
	}
}

func TestIdentity(t *testing.T) { // P2.3
	type pair struct {
		key int
		val string
	}
	one, same := &pair{1, "a"}, &pair{1, "a"}
	c := cell.New(one)
	if c.Cas(nil, same, nil) || c.Load(nil) != one {
		t.Errorf("Cas took an equal thing for the very one")
	}
	if !c.Cas(nil, one, same) || c.Load(nil) != same || c.Cas(nil, one, nil) {
		t.Errorf("Cas from the very thing to an equal one")
	}
	same.key = 2 // it is that very thing still
	if !c.Cas(nil, same, nil) || c.Load(nil) != nil {
		t.Errorf("Cas from the very thing, which has changed")
	}
}

func TestRoundAndBack(t *testing.T) { // P2.5
	edges := []int{math.MinInt, math.MinInt + 1, -1 << 32, -1, 0, 1, 7, 1 << 31, 1 << 32, math.MaxInt - 1, math.MaxInt}
	for _, start := range edges {
		for _, d := range edges {
			n := cell.NewNum(start)
			if there, back := n.Add(nil, d), n.Add(nil, -d); there != start+d || back != start || n.Load(nil) != start {
				t.Errorf("%d: Add of %d answered %d, and back %d", start, d, there, back)
			}
			if was := n.Swap(nil, d); n.Swap(nil, was) != d || n.Load(nil) != start {
				t.Errorf("%d: Swap to %d and back leaves %d", start, d, n.Load(nil))
			}
		}
	}
	c, m := cell.New(first), cell.NewMark(true)
	if c.Swap(nil, c.Swap(nil, second)) != second || c.Load(nil) != first {
		t.Errorf("a cell's Swap and back")
	}
	if m.Swap(nil, m.Swap(nil, false)) || !m.Load(nil) {
		t.Errorf("a mark's Swap and back")
	}
}

func TestTapesKindsAreNewMemory(t *testing.T) { // P2.6
	tape := cell.NewTape()
	for kind := range 5 {
		tape.Pass(kind)
	}
	kinds := tape.Kinds()
	clear(kinds[:cap(kinds)])
	tape.Pass(5)
	if got := tape.Kinds(); !slices.Equal(got, []int{0, 1, 2, 3, 4, 5}) || slices.Max(kinds) != 0 {
		t.Errorf("Kinds = %v; the list that was handed out = %v", got, kinds)
	}
}

func TestManyThreads(t *testing.T) { // P2.2: each access is one, whoever goes at it at once
	const threads, times = 16, 2000
	var added, tried cell.Num
	var stack cell.Cell[[]int]
	var marks cell.Num
	set := cell.NewMark(false)
	var all sync.WaitGroup
	for range threads {
		all.Go(func() {
			for range times {
				added.Add(nil, 3)
				for n := tried.Load(nil); !tried.Cas(nil, n, n+1); n = tried.Load(nil) {
				}
				for {
					old := stack.Load(nil)
					more := []int{1}
					if old != nil {
						more[0] = (*old)[0] + 1
					}
					if stack.Cas(nil, old, &more) {
						break
					}
				}
				if set.Cas(nil, false, true) {
					marks.Add(nil, 1)
				}
			}
		})
	}
	all.Wait()
	if added.Load(nil) != 3*threads*times || tried.Load(nil) != threads*times || (*stack.Load(nil))[0] != threads*times || marks.Load(nil) != 1 {
		t.Errorf("added %d, tried %d, swapped %d, marked %d times", added.Load(nil), tried.Load(nil), (*stack.Load(nil))[0], marks.Load(nil))
	}
}
