package free_test

import (
	"fmt"
	"runtime"
	"slices"
	"testing"
	"time"

	"larch/api"
	"larch/free"
)

// roomy: a list with spare room behind it.
func roomy[T any](spare T, list ...T) []T {
	room := append(slices.Clone(list), spare, spare, spare)
	return room[:len(list):len(room)]
}

// scribble writes all over a list, spare room included.
func scribble[T any](list []T, with T) {
	for i := range list[:cap(list)] {
		list[:cap(list)][i] = with
	}
}

// given is what the calls are handed, all with spare room.
type given struct {
	keys, drops []int
	scripts     [][]api.Op
}

func newGiven() given {
	odd := api.Op{Kind: 99, Key: 98}
	mine := func(list ...api.Op) []api.Op { return roomy(odd, list...) }
	return given{
		keys:    roomy(-77, 5, 3, 9, 3, 1, 8, 2),
		drops:   roomy(-78, 3, 4, 8),
		scripts: roomy(mine(odd), mine(put(1, 10), get(1), put(5, 50)), mine(del(2), ifAbsent(2, 20), ifAbsent(2, 21)), mine(), mine(put(3, 3), del(3))),
	}
}

// picture: all of it, spare room included.
func (g given) picture() string {
	text := fmt.Sprint(g.keys[:cap(g.keys)], g.drops[:cap(g.drops)])
	for _, script := range g.scripts[:cap(g.scripts)] {
		text += fmt.Sprint(len(script), script[:cap(script)])
	}
	return text
}

// tellAll calls everything, tells it as a text, and then writes all over it.
func tellAll(t *testing.T, g given) string {
	t.Helper()
	sum, e1 := free.Sum(3, g.keys)
	won, e2 := free.First(3, 4)
	popped, left, none, e3 := free.Stack(3, 4)
	taken, inOrder, e4 := free.Queue(3, 4)
	answers, pairs, e5 := free.Apart(g.scripts)
	came, went, rest, e6 := free.Rush(3, g.keys)
	rose, row, e7 := free.Grow(3, 5, 4)
	keys, tidy, e8 := free.Shape(3, g.keys, g.drops)
	text := fmt.Sprint(sum, won, popped, left, none, taken, inOrder, answers, pairs, came, went, rest, rose, row, keys, tidy)
	if e := e1 + e2 + e3 + e4 + e5 + e6 + e7 + e8; e != api.OK {
		t.Errorf("errors: %d", e)
	}
	for _, list := range [][]int{won, popped, left, taken, came, went, keys} {
		scribble(list, -555)
	}
	for _, rets := range answers {
		scribble(rets, api.Ret{Val: -556})
	}
	scribble(answers, nil)
	for _, list := range [][]api.Pair{pairs, rest, row} {
		scribble(list, api.Pair{Key: -557})
	}
	return text
}

func TestMemory(t *testing.T) { // P27.5
	g := newGiven()
	before := g.picture()
	want := tellAll(t, g)
	for range 20 {
		if got := tellAll(t, g); got != want || g.picture() != before {
			t.Fatalf("%s, want %s; handed in: %s, was %s", got, want, g.picture(), before)
		}
	}
}

func TestRefusedCallsChangeNothing(t *testing.T) { // P27.5
	g := newGiven()
	before := g.picture()
	for _, e := range []api.Errno{
		errorOf(free.Sum(0, g.keys)),
		errorOfTwo(free.Apart(g.scripts[:cap(g.scripts)])),
		errorOfTwo(free.Apart(append(slices.Clone(g.scripts), g.scripts[0]))),
		errorOfThree(free.Rush(65, g.keys)),
		errorOfTwo(free.Shape(-1, g.keys, g.drops)),
	} {
		if e == api.OK || g.picture() != before {
			t.Errorf("error %d; handed in: %s, was %s", e, g.picture(), before)
		}
	}
}

func errorOf[A any](_ A, e api.Errno) api.Errno                      { return e }
func errorOfTwo[A, B any](_ A, _ B, e api.Errno) api.Errno           { return e }
func errorOfThree[A, B, C any](_ A, _ B, _ C, e api.Errno) api.Errno { return e }

// TestListsOfOneAnswerShareNothing: each list is its own.
func TestListsOfOneAnswerShareNothing(t *testing.T) { // P27.5
	came, went, _, _ := free.Rush(2, ints(1, 2, 1))
	scribble(came, -555)
	if !slices.Equal(went, ints(1, 1, 0)) {
		t.Errorf("the lists of Rush share memory: %v", went)
	}
	answers, _, _ := free.Apart(workers(ops(put(1, 1), get(1)), ops(put(2, 2), get(2)), ops(put(3, 3), get(3))))
	for worker, rets := range answers {
		if want := []api.Ret{{}, {Ok: true, Val: worker + 1}}; !sameRets(rets, want) {
			t.Errorf("the answers of worker %d share memory with another one's: %v", worker, rets)
		}
		scribble(rets, api.Ret{Val: -556})
	}
}

// TestNothingIsKept: what is handed in may be written to behind the call.
func TestNothingIsKept(t *testing.T) { // P27.5
	g := newGiven()
	answers, pairs, _ := free.Apart(g.scripts)
	keys, _, _ := free.Shape(3, g.keys, g.drops)
	want := fmt.Sprint(answers, pairs, keys)
	for _, script := range g.scripts {
		scribble(script, api.Op{Kind: -561})
	}
	scribble(g.keys, -562)
	scribble(g.drops, -563)
	if got := fmt.Sprint(answers, pairs, keys); got != want {
		t.Errorf("%s, want %s", got, want)
	}
}

// TestGoroutinesHaveEnded: behind many calls there are no more than ahead of them.
func TestGoroutinesHaveEnded(t *testing.T) { // P27.5
	before := runtime.NumGoroutine()
	g := newGiven()
	for range 20 {
		tellAll(t, g)
		_, _, _ = free.Queue(64, 20)
		_, _, _ = free.Grow(64, 30, 3)
	}
	// A goroutine that has told its end is counted for a moment longer.
	for end := time.Now().Add(5 * time.Second); runtime.NumGoroutine() > before; time.Sleep(time.Millisecond) {
		if time.Now().After(end) {
			t.Fatalf("%d goroutines are left", runtime.NumGoroutine()-before)
		}
	}
}

// TestGoroutinesThatAreMade: as many as the chapter says, and none beside an error. The runtime may make a few of its own meanwhile.
func TestGoroutinesThatAreMade(t *testing.T) { // P27.5
	const times, few = 100, 50
	keys := ints(1, 2)
	for name, c := range map[string]struct {
		each int
		call func()
	}{
		"Sum":           {5, func() { free.Sum(5, keys) }},
		"First":         {64, func() { free.First(64, 1) }},
		"Stack":         {6, func() { free.Stack(6, 2) }},
		"Queue":         {14, func() { free.Queue(7, 2) }},
		"Apart":         {3, func() { free.Apart(workers(ops(get(1)), nil, ops(get(2)))) }},
		"Rush":          {8, func() { free.Rush(8, keys) }},
		"Grow":          {10, func() { free.Grow(9, 2, 2) }},
		"Shape":         {11, func() { free.Shape(11, keys, keys) }},
		"Sum of 0":      {0, func() { free.Sum(0, keys) }},
		"First of 65":   {0, func() { free.First(65, 1) }},
		"Stack of -1":   {0, func() { free.Stack(6, -1) }},
		"Queue of 64":   {0, func() { free.Queue(64, 1000) }},
		"Apart of Min":  {0, func() { free.Apart(workers(ops(api.Op{Kind: api.Min}))) }},
		"Apart of one":  {0, func() { free.Apart(workers(ops(get(1)), ops(get(1)))) }},
		"Rush of many":  {0, func() { free.Rush(8, make([]int, 1001)) }},
		"Grow of many":  {0, func() { free.Grow(9, 1001, 2) }},
		"Shape of many": {0, func() { free.Shape(11, keys, make([]int, 1001)) }},
	} {
		made := madeBy(func() {
			for range times {
				c.call()
			}
		})
		if made < times*c.each || made > times*c.each+few {
			t.Errorf("%s, %d times: %d goroutines, want %d", name, times, made, times*c.each)
		}
	}
}
