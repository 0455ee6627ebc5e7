package once_test

import (
	"math"
	"math/rand"
	"slices"
	"sync"
	"testing"

	"larch/api"
	"larch/once"
)

func val(n int) once.Body    { return once.Body{Val: n} }
func broken(n int) once.Body { return once.Body{Val: n, Panic: true} }

func said(ran, panics bool, n int) once.Said { return once.Said{Ran: ran, Panic: panics, Val: n} }

// seen: what a caller sees of a call; runs counts how often the body was run.
func seen(runs *int, call func() int) (s once.Said) {
	before := *runs
	defer func() {
		if r := recover(); r != nil {
			s.Val, s.Panic = r.(int), true
		}
		s.Ran = *runs != before
	}()
	s.Val = call()
	return s
}

// runner: a function that does what the body says.
func runner(b once.Body, runs *int) func() int {
	return func() int {
		*runs++
		if b.Panic {
			panic(b.Val)
		}
		return b.Val
	}
}

func byOnce(bodies []once.Body) []once.Said {
	var o sync.Once
	var list []once.Said
	for _, b := range bodies {
		runs, v := 0, 0
		run := runner(b, &runs)
		list = append(list, seen(&runs, func() int { o.Do(func() { v = run() }); return v }))
	}
	return list
}

func byOnceFunc(b once.Body, calls int) []once.Said {
	runs := 0
	run := runner(b, &runs)
	f := sync.OnceFunc(func() { run() })
	var list []once.Said
	for range calls {
		list = append(list, seen(&runs, func() int { f(); return 0 }))
	}
	return list
}

func byOnceValue(b once.Body, calls int) []once.Said {
	runs := 0
	f := sync.OnceValue(runner(b, &runs))
	var list []once.Said
	for range calls {
		list = append(list, seen(&runs, f))
	}
	return list
}

// nested: the innermost body that panics is the last one that is run; all around it fall with it.
func nested(bodies []once.Body) []once.Said {
	falls := -1
	for i, b := range bodies {
		if b.Panic {
			falls = i
		}
	}
	list := make([]once.Said, len(bodies))
	for i, b := range bodies {
		switch {
		case i < falls:
			list[i] = said(false, true, bodies[falls].Val)
		default:
			list[i] = said(true, i == falls, b.Val)
		}
	}
	return list
}

func TestCallsByExamples(t *testing.T) { // P3.1
	sameSaid(t, "Do(5, 6)", once.Do([]once.Body{val(5), val(6)}), said(true, false, 5), said(false, false, 0))
	sameSaid(t, "Do(5!, 6)", once.Do([]once.Body{broken(5), val(6)}), said(true, true, 5), said(false, false, 0))
	sameSaid(t, "Do(5, 6!)", once.Do([]once.Body{val(5), broken(6)}), said(true, false, 5), said(false, false, 0))
	sameSaid(t, "Do()", once.Do(nil))
	sameSaid(t, "Do of an empty list", once.Do([]once.Body{}))
	sameSaid(t, "Func(5, 2)", okay(t)(once.Func(val(5), 2)), said(true, false, 0), said(false, false, 0))
	sameSaid(t, "Func(5!, 2)", okay(t)(once.Func(broken(5), 2)), said(true, true, 5), said(false, true, 5))
	sameSaid(t, "Value(5, 2)", okay(t)(once.Value(val(5), 2)), said(true, false, 5), said(false, false, 5))
	sameSaid(t, "Value(5!, 2)", okay(t)(once.Value(broken(5), 2)), said(true, true, 5), said(false, true, 5))
	sameSaid(t, "Nest(1, 2, 3)", okay(t)(once.Nest([]once.Body{val(1), val(2), val(3)})), said(true, false, 1), said(true, false, 2), said(true, false, 3))
	sameSaid(t, "Nest(1, 2!, 3)", okay(t)(once.Nest([]once.Body{val(1), broken(2), val(3)})), said(false, true, 2), said(true, true, 2), said(true, false, 3))
	sameSaid(t, "Nest(1, 2, 3!)", okay(t)(once.Nest([]once.Body{val(1), val(2), broken(3)})), said(false, true, 3), said(false, true, 3), said(true, true, 3))
	sameSaid(t, "Nest()", okay(t)(once.Nest(nil)))
}

func sameSaid(t *testing.T, what string, got []once.Said, want ...once.Said) {
	t.Helper()
	if !slices.Equal(got, want) {
		t.Errorf("%s = %v, want %v", what, got, want)
	}
}

func okay(t *testing.T) func([]once.Said, api.Errno) []once.Said {
	return func(list []once.Said, e api.Errno) []once.Said {
		t.Helper()
		if e != api.OK {
			t.Errorf("error %d", e)
		}
		return list
	}
}

// someBodies: the values at the ends of the ints, and 0, with which a panic is one all the same.
func someBodies() []once.Body {
	var list []once.Body
	for _, n := range []int{0, 1, -1, math.MaxInt, math.MinInt} {
		list = append(list, val(n), broken(n))
	}
	return list
}

func TestDoIsAsSyncOnce(t *testing.T) { // P3.1
	r := rand.New(rand.NewSource(1))
	for range 500 {
		bodies := make([]once.Body, r.Intn(6))
		for i := range bodies {
			bodies[i] = someBodies()[r.Intn(10)]
		}
		sameSaid(t, "Do", once.Do(bodies), byOnce(bodies)...)
	}
	many := make([]once.Body, 5000) // there is no limit
	sameSaid(t, "Do of many", once.Do(many), byOnce(many)...)
}

func TestFuncAndValueAreAsTheLibrary(t *testing.T) { // P3.1
	for _, b := range someBodies() {
		for _, calls := range []int{0, 1, 2, 3, 1000} {
			sameSaid(t, "Func", okay(t)(once.Func(b, calls)), byOnceFunc(b, calls)...)
			sameSaid(t, "Value", okay(t)(once.Value(b, calls)), byOnceValue(b, calls)...)
		}
	}
}

func TestNestOfAllPanics(t *testing.T) { // P3.1
	for depth := range 7 {
		for set := range 1 << depth {
			bodies := make([]once.Body, depth)
			for i := range bodies {
				bodies[i] = once.Body{Val: 10*i - 20, Panic: set>>i&1 == 1}
			}
			sameSaid(t, "Nest", okay(t)(once.Nest(bodies)), nested(bodies)...)
		}
	}
}

func TestNestAsDeepAsItMayBe(t *testing.T) { // P3.1
	bodies := make([]once.Body, 1000)
	for i := range bodies {
		bodies[i].Val = i
	}
	sameSaid(t, "Nest of 1000", okay(t)(once.Nest(bodies)), nested(bodies)...)
	bodies[999].Panic = true
	sameSaid(t, "Nest of 1000, the last one panics", okay(t)(once.Nest(bodies)), nested(bodies)...)
}

func TestCallsRefused(t *testing.T) { // P3.1
	for _, c := range []struct {
		calls int
		want  api.Errno
	}{{-1, api.ErrArg}, {math.MinInt, api.ErrArg}, {1001, api.ErrBig}, {math.MaxInt, api.ErrBig}} {
		for name, call := range map[string]func(once.Body, int) ([]once.Said, api.Errno){"Func": once.Func, "Value": once.Value} {
			for _, b := range someBodies() {
				if list, e := call(b, c.calls); e != c.want || len(list) != 0 {
					t.Errorf("%s(%v, %d) = %v, %d, want error %d", name, b, c.calls, list, e, c.want)
				}
			}
		}
	}
	if list, e := once.Nest(make([]once.Body, 1001)); e != api.ErrBig || len(list) != 0 {
		t.Errorf("Nest of 1001 = %d, %d", len(list), e)
	}
}

func TestCallsKeepAndChangeNothing(t *testing.T) { // P3.4
	room := []once.Body{val(1), broken(2), val(3), val(7), val(8)}
	before := slices.Clone(room)
	for name, call := range map[string]func() []once.Said{
		"Do":    func() []once.Said { return once.Do(room[:3]) },
		"Nest":  func() []once.Said { list, _ := once.Nest(room[:3]); return list },
		"Func":  func() []once.Said { list, _ := once.Func(room[1], 3); return list },
		"Value": func() []once.Said { list, _ := once.Value(room[1], 3); return list },
	} {
		first := call()
		kept := slices.Clone(first)
		second := call()
		clear(second)
		_ = append(second, said(true, true, 9))
		if !slices.Equal(first, kept) {
			t.Errorf("%s: two answers share memory", name)
		}
		if third := call(); !slices.Equal(third, kept) {
			t.Errorf("%s = %v, and at another call %v", name, kept, third)
		}
		if !slices.Equal(room, before) {
			t.Errorf("%s changed what was handed in: %v", name, room)
		}
	}
}
