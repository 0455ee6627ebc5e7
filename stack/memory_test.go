package stack_test

import (
	"fmt"
	"testing"

	"larch/api"
	"larch/stack"
)

// roomy: a list with spare room behind it.
func roomy[T any](spare T, list ...T) []T {
	room := append(list, spare, spare, spare)
	return room[:len(list):len(room)]
}

// asset is what a call is handed, all with spare room.
type asset struct {
	start, picks []int
	scripts      [][]stack.Op
}

func newAsset() asset {
	odd := stack.Op{Kind: 99, Val: 98}
	mine := func(list ...stack.Op) []stack.Op { return roomy(odd, list...) }
	return asset{
		start:   roomy(77, 5, 6, 7),
		picks:   roomy(1, 0, 1, 0, 1, 0, 0, 1, 1, 0, 0, 0, 9, -1, 1, 1, 1, 0, 0, 2, 1),
		scripts: roomy(mine(odd), mine(push(1), all, push(2), take), mine(pop, all, push(3), top), mine()),
	}
}

// picture: all of it, spare room included.
func (a asset) picture() string {
	text := fmt.Sprint(a.start[:cap(a.start)], a.picks[:cap(a.picks)])
	for _, script := range a.scripts[:cap(a.scripts)] {
		text += fmt.Sprint(len(script), script[:cap(script)])
	}
	return text
}

func TestNothingHandedInIsChanged(t *testing.T) { // P9.6
	a := newAsset()
	for name, call := range map[string]func() api.Errno{
		"Play":  func() api.Errno { _, e := stack.Play(a.start, a.scripts, a.picks); return e },
		"Alone": func() api.Errno { _, _, _, e := stack.Alone(a.start, a.scripts[0]); return e },
		"Play that is refused": func() api.Errno {
			_, e := stack.Play(a.start, a.scripts[:cap(a.scripts)], a.picks)
			return e - api.ErrKind
		},
		"Alone that is refused": func() api.Errno {
			_, _, _, e := stack.Alone(a.start, a.scripts[0][:cap(a.scripts[0])])
			return e - api.ErrKind
		},
	} {
		before := a.picture()
		if e := call(); e != api.OK {
			t.Errorf("%s: %d", name, e)
		}
		if a.picture() != before {
			t.Errorf("%s has changed what it was handed", name)
		}
	}
}

// scribble writes all over a list, spare room included.
func scribble[T any](list []T, with T) {
	for i := range list[:cap(list)] {
		list[:cap(list)][i] = with
	}
}

// TestAnswersAreNewMemory: writing all over the answers changes neither what was handed in nor later answers.
func TestAnswersAreNewMemory(t *testing.T) { // P9.6
	a := newAsset()
	before := a.picture()
	answers := func() string {
		p, _ := stack.Play(a.start, a.scripts, a.picks)
		gots, left, kinds, _ := stack.Alone(a.start, a.scripts[0])
		text := fmt.Sprint(p, gots, left, kinds)
		for _, n := range p.Notes {
			scribble(n.Got.Vals, -555)
		}
		for _, g := range gots {
			scribble(g.Vals, -555)
		}
		scribble(p.Left, -555)
		scribble(left, -555)
		scribble(kinds, -555)
		scribble(p.Steps, api.Step{Kind: -556})
		scribble(p.Ended, true)
		scribble(p.Panics, true)
		scribble(p.Notes, stack.Note{Worker: -557})
		scribble(gots, stack.Got{Val: -558})
		return text
	}
	want := answers()
	if got := answers(); got != want || a.picture() != before {
		t.Errorf("the answers share memory with what was handed in, or with earlier ones: %s, want %s", got, want)
	}
}

// checkApart: each list is written over with a number of its own; where two share memory, the later one shows in the earlier.
func checkApart(t *testing.T, lists [][]int) {
	t.Helper()
	for i, list := range lists {
		scribble(list, i)
	}
	for i, list := range lists {
		for _, n := range list {
			if n != i {
				t.Errorf("list %d shares memory with list %d", i, n)
			}
		}
	}
}

// TestAnswersShareNothing: writing to one list of an answer changes no other.
func TestAnswersShareNothing(t *testing.T) { // P9.6
	gots, left, kinds, _ := stack.Alone([]int{1, 2, 3}, ops(all, all, pop, all, take, push(1), all, all))
	lists := [][]int{left, kinds}
	for _, g := range gots {
		lists = append(lists, g.Vals)
	}
	checkApart(t, lists)
	p, _ := stack.Play([]int{1, 2, 3}, workers(ops(all, all), ops(all, pop, all)), []int{0, 0, 0, 0, 1, 1, 1, 1, 1, 1, 1})
	lists = [][]int{p.Left}
	for _, n := range p.Notes {
		lists = append(lists, n.Got.Vals)
	}
	checkApart(t, lists)
	scribble(p.Ended, true)
	if p.Panics[0] || p.Panics[1] {
		t.Error("Ended and Panics share memory")
	}
	var s stack.Stack[int]
	s.Push(nil, 1)
	s.Push(nil, 2)
	checkApart(t, [][]int{s.All(nil), s.All(nil), s.Take(nil)})
}

// TestRunsShareNothing: what one run does isn't seen by the next.
func TestRunsShareNothing(t *testing.T) { // P9.6
	for range 3 {
		wantPlay(t, nil, workers(ops(push(1), all)), []int{0, 0, 0, 0, 0})
		wantAlone(t, nil, ops(push(1), all))
	}
}
