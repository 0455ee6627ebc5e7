package stack_test

import (
	"slices"
	"sync"
	"testing"

	"larch/api"
	"larch/cell"
	"larch/stack"
)

// wantCalls: a Stack of any type, without a gate and with a Tape, held against a list; is says whether two things are the same.
func wantCalls[T any](t *testing.T, is func(a, b T) bool, a, b, c T) {
	t.Helper()
	var s stack.Stack[T]
	var zero T
	for _, call := range []func(cell.Gate) (T, bool){s.Pop, s.Top} {
		if v, ok := call(nil); ok || !is(v, zero) {
			t.Errorf("of an empty stack: %v, %v", v, ok)
		}
	}
	if len(s.Take(nil))+len(s.All(nil)) != 0 {
		t.Error("an empty stack holds something")
	}
	s.Push(nil, a)
	s.Push(nil, b)
	s.Push(nil, c)
	if v, ok := s.Top(nil); !ok || !is(v, c) {
		t.Errorf("Top = %v, %v, want %v", v, ok, c)
	}
	if list := s.All(nil); !slices.EqualFunc(list, []T{c, b, a}, is) {
		t.Errorf("All = %v", list)
	}
	if v, ok := s.Pop(nil); !ok || !is(v, c) {
		t.Errorf("Pop = %v, %v, want %v", v, ok, c)
	}
	s.Push(nil, a)
	if list := s.Take(nil); !slices.EqualFunc(list, []T{a, b, a}, is) {
		t.Errorf("Take = %v", list)
	}
	if v, ok := s.Pop(nil); ok || !is(v, zero) || len(s.All(nil)) != 0 {
		t.Errorf("Pop behind Take = %v, %v", v, ok)
	}
}

func same[T comparable](a, b T) bool { return a == b }

func TestStacksOfAllTypes(t *testing.T) { // P9.5
	one := 1
	wantCalls(t, same[int], 1, 0, -1)
	wantCalls(t, same[string], "a", "", "c")
	wantCalls(t, same[bool], true, false, true)
	wantCalls(t, same[struct{}], struct{}{}, struct{}{}, struct{}{})
	wantCalls(t, same[[2]float64], [2]float64{1, 2}, [2]float64{}, [2]float64{3})
	wantCalls(t, same[*int], &one, nil, new(int))
	wantCalls(t, same[any], 1, nil, "x")
	wantCalls(t, slices.Equal[[]int], []int{1}, nil, []int{2, 3})
	wantCalls(t, func(a, b func() int) bool { return (a == nil) == (b == nil) && (a == nil || a() == b()) }, func() int { return 1 }, nil, func() int { return 3 })
	wantCalls(t, func(a, b map[int]int) bool { return len(a) == len(b) && a[1] == b[1] }, map[int]int{1: 1}, nil, map[int]int{1: 2})
}

// TestAccessesOfCalls: the accesses that a gate sees.
func TestAccessesOfCalls(t *testing.T) { // P9.5
	var s stack.Stack[string]
	for _, c := range []struct {
		name string
		call func(g cell.Gate)
		want []int
	}{
		{"Pop of none", func(g cell.Gate) { s.Pop(g) }, []int{api.Load}},
		{"Top of none", func(g cell.Gate) { s.Top(g) }, []int{api.Load}},
		{"All of none", func(g cell.Gate) { s.All(g) }, []int{api.Load}},
		{"Take of none", func(g cell.Gate) { s.Take(g) }, []int{api.Swap}},
		{"Push", func(g cell.Gate) { s.Push(g, "a") }, []int{api.Load, api.Cas}},
		{"Push on one", func(g cell.Gate) { s.Push(g, "b") }, []int{api.Load, api.Cas}},
		{"Top", func(g cell.Gate) { s.Top(g) }, []int{api.Load}},
		{"All", func(g cell.Gate) { s.All(g) }, []int{api.Load}},
		{"Pop", func(g cell.Gate) { s.Pop(g) }, []int{api.Load, api.Cas}},
		{"Take", func(g cell.Gate) { s.Take(g) }, []int{api.Swap}},
	} {
		tape := cell.NewTape()
		c.call(tape)
		if !slices.Equal(tape.Kinds(), c.want) {
			t.Errorf("%s: kinds %v, want %v", c.name, tape.Kinds(), c.want)
		}
	}
}

// meddler is a gate at which something else happens ahead of chosen accesses.
type meddler struct {
	kinds []int
	at    map[int]func() // by the number of the access
}

func (m *meddler) Pass(kind int) {
	m.kinds = append(m.kinds, kind)
	if meddle := m.at[len(m.kinds)-1]; meddle != nil {
		meddle()
	}
}

func TestCallsThatAreMeddledWith(t *testing.T) { // P9.5
	var s stack.Stack[string]
	m := &meddler{at: map[int]func(){1: func() { s.Push(nil, "x") }, 3: func() { s.Pop(nil); s.Push(nil, "x") }}}
	s.Push(m, "a") // the second time an equal piece has come in the place of what was loaded
	if list := s.All(nil); !slices.Equal(list, []string{"a", "x"}) || !slices.Equal(m.kinds, []int{api.Load, api.Cas, api.Load, api.Cas, api.Load, api.Cas}) {
		t.Errorf("Push: %v, kinds %v", list, m.kinds)
	}
	m = &meddler{at: map[int]func(){1: func() { s.Push(nil, "b") }}}
	if v, ok := s.Pop(m); v != "b" || !ok || len(m.kinds) != 4 {
		t.Errorf("Pop = %q, %v, kinds %v", v, ok, m.kinds)
	}
	m = &meddler{at: map[int]func(){1: func() { s.Take(nil) }}}
	if v, ok := s.Pop(m); v != "" || ok || !slices.Equal(m.kinds, []int{api.Load, api.Cas, api.Load}) {
		t.Errorf("Pop = %q, %v, kinds %v", v, ok, m.kinds)
	}
	m = &meddler{at: map[int]func(){0: func() { s.Push(nil, "c") }}}
	if list := s.Take(m); !slices.Equal(list, []string{"c"}) { // the gate is passed ahead of the access
		t.Errorf("Take = %v", list)
	}
}

// TestCallsOfNoStack: a nil Stack is like an empty one that keeps nothing.
func TestCallsOfNoStack(t *testing.T) { // P9.5
	var s *stack.Stack[int]
	tape := cell.NewTape()
	s.Push(tape, 1)
	v, ok := s.Pop(tape)
	w, is := s.Top(tape)
	if v != 0 || ok || w != 0 || is || len(s.Take(tape))+len(s.All(tape)) != 0 {
		t.Errorf("a nil Stack: %v, %v, %v, %v", v, ok, w, is)
	}
	if !slices.Equal(tape.Kinds(), []int{api.Load, api.Cas, api.Load, api.Load, api.Swap, api.Load}) {
		t.Errorf("a nil Stack: kinds %v", tape.Kinds())
	}
}

func TestTwoStacksHaveNothingInCommon(t *testing.T) { // P9.5
	var a, b stack.Stack[int]
	a.Push(nil, 1)
	b.Push(nil, 2)
	a.Push(nil, 3)
	b.Pop(nil)
	if len(b.All(nil)) != 0 || !slices.Equal(a.All(nil), []int{3, 1}) {
		t.Errorf("a holds %v, b %v", a.All(nil), b.All(nil))
	}
}

// TestStackInACrowd: goroutines all at once, without a gate: each thing that was pushed is taken once, or is left; and a goroutine's things that lie on the stack lie there in its order.
func TestStackInACrowd(t *testing.T) { // P9.5
	const crowd, each = 16, 500
	type thing struct{ who, number int }
	var s stack.Stack[thing]
	took := make([][]thing, crowd)
	var joined sync.WaitGroup
	for who := range crowd {
		joined.Go(func() {
			for number := range each {
				s.Push(nil, thing{who, number})
				s.Top(nil)
				switch number % 7 {
				case 3:
					took[who] = append(took[who], s.Take(nil)...)
				case 5:
					checkFalling(t, crowd, s.All(nil), func(x thing) (int, int) { return x.who, x.number })
				case 1, 2:
					if x, ok := s.Pop(nil); ok {
						took[who] = append(took[who], x)
					}
				}
			}
		})
	}
	joined.Wait()
	left := s.All(nil)
	checkFalling(t, crowd, left, func(x thing) (int, int) { return x.who, x.number })
	seen := map[thing]int{}
	for _, x := range append(slices.Concat(took...), left...) {
		seen[x]++
	}
	for who := range crowd {
		for number := range each {
			if seen[thing{who, number}] != 1 {
				t.Fatalf("thing %d of goroutine %d came %d times", number, who, seen[thing{who, number}])
			}
		}
	}
	if len(seen) != crowd*each {
		t.Errorf("%d things of %d", len(seen), crowd*each)
	}
}

// checkFalling: from the top on, the numbers of each goroutine's things fall.
func checkFalling[T any](t *testing.T, crowd int, list []T, of func(T) (int, int)) {
	last := make([]int, crowd)
	for i := range last {
		last[i] = 1 << 30
	}
	for _, x := range list {
		who, number := of(x)
		if number >= last[who] {
			t.Errorf("thing %d of goroutine %d lies under its thing %d", number, who, last[who])
		}
		last[who] = number
	}
}
