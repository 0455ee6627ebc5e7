package chroma_test

import (
	"fmt"
	"slices"
	"testing"

	"larch/api"
	"larch/chroma"
)

// roomy: a list with spare room behind it.
func roomy[T any](spare T, list ...T) []T {
	room := append(slices.Clone(list), spare, spare, spare)
	return room[:len(list):len(room)]
}

// scribble writes all over a list, spare room included.
func scribble[T any](list []T, with T) {
	for i := range list[:cap(list)] {
		list[:cap(list)][i] = with
	}
}

// asset is what a call is handed, all with spare room.
type asset struct {
	start   []api.Node
	scripts [][]api.Op
	picks   []int
}

func newAsset(t *testing.T) asset {
	odd := api.Op{Kind: 99, Key: 98}
	mine := func(list ...api.Op) []api.Op { return roomy(odd, list...) }
	return asset{
		start:   roomy(api.Node{Key: -77, Left: -78}, below(t, "(5:1 (2:0 (1:3=10) (2:3=20)) (7:1 (6:1 (5:1=50) (6:1=60)) (8:1 (7:1=70) (8:1=80))))")...),
		scripts: roomy(mine(odd), mine(put(2, 21), del(1), get(2), put(9, 9)), mine(del(2), ifAbsent(2, 22), del(6), put(10, 1)), mine()),
		picks:   roomy(1, slices.Concat(times(25, 0), times(12, 1), []int{2, 9, -1}, times(9, 0), times(30, 1), times(90, 0), times(60, 1))...),
	}
}

// picture: all of it, spare room included.
func (a asset) picture() string {
	text := fmt.Sprint(a.start[:cap(a.start)], a.picks[:cap(a.picks)])
	for _, script := range a.scripts[:cap(a.scripts)] {
		text += fmt.Sprint(len(script), script[:cap(script)])
	}
	return text
}

func TestNothingHandedInIsChanged(t *testing.T) { // P22.7
	a := newAsset(t)
	all := a.scripts[:cap(a.scripts)]
	for name, call := range map[string]func() api.Errno{
		"Check":                  func() api.Errno { return chroma.Check(a.start, a.scripts, a.picks) },
		"Play":                   func() api.Errno { _, e := chroma.Play(a.start, a.scripts, a.picks); return e },
		"Finish":                 func() api.Errno { _, _, e := chroma.Finish(a.start, a.scripts, a.picks, 900); return e },
		"Alone":                  func() api.Errno { _, _, e := chroma.Alone(a.start, a.scripts[0]); return e },
		"Repair":                 func() api.Errno { _, e := chroma.Repair(a.start, 1); return e },
		"Kinds":                  func() api.Errno { _, e := chroma.Kinds(a.start, a.scripts[0]); return e },
		"Check that refuses":     func() api.Errno { return chroma.Check(a.start, all, a.picks) - api.ErrKind },
		"Play that is refused":   func() api.Errno { _, e := chroma.Play(a.start, all, a.picks); return e - api.ErrKind },
		"Finish that is refused": func() api.Errno { _, _, e := chroma.Finish(a.start, a.scripts, a.picks, -1); return e - api.ErrArg },
		"Alone that is refused":  func() api.Errno { _, _, e := chroma.Alone(a.start, all[0][:5]); return e - api.ErrKind },
		"Repair that is refused": func() api.Errno { _, e := chroma.Repair(a.start[:len(a.start)+1], 1); return e - api.ErrForm },
	} {
		before := a.picture()
		if e := call(); e != api.OK {
			t.Errorf("%s: %d", name, e)
		}
		if a.picture() != before {
			t.Errorf("%s has changed what it was handed", name)
		}
	}
}

// overwrite writes all over what a run answered.
func overwrite(p chroma.Played) {
	scribble(p.Steps, api.Step{Kind: -558})
	scribble(p.Ended, true)
	scribble(p.History, api.Event{Thread: -559})
	scribble(p.Table, api.Node{Key: -560})
}

// TestAnswersAreNewMemory: writing all over the answers changes neither what was handed in nor other answers.
func TestAnswersAreNewMemory(t *testing.T) { // P22.7
	a := newAsset(t)
	before := a.picture()
	answers := func() string {
		p, _ := chroma.Play(a.start, a.scripts, a.picks)
		f, all, _ := chroma.Finish(a.start, a.scripts, a.picks, 5000)
		rets, list, _ := chroma.Alone(a.start, a.scripts[0])
		repaired, _ := chroma.Repair(a.start, 1)
		kinds, _ := chroma.Kinds(a.start, a.scripts[0])
		text := fmt.Sprint(p, f, all, rets, list, repaired, kinds)
		scribble(rets, api.Ret{Val: -555})
		scribble(list, api.Node{Key: -556})
		scribble(repaired, api.Node{Key: -556})
		scribble(kinds, -557)
		overwrite(f)
		if rest := fmt.Sprint(p); rest != text[:len(rest)] {
			t.Error("the answers share memory with one another")
		}
		overwrite(p)
		return text
	}
	want := answers()
	if got := answers(); got != want || a.picture() != before {
		t.Errorf("the answers share memory with what was handed in, or with earlier ones: %s, want %s", got, want)
	}
}

// TestTwoPlaysHaveNothingInCommon: the same play again gives the same; what was handed in may be written to behind a call.
func TestTwoPlaysHaveNothingInCommon(t *testing.T) { // P22.7
	a := newAsset(t)
	first, _ := chroma.Play(a.start, a.scripts, a.picks)
	text := fmt.Sprint(first)
	for range 3 {
		if again, _ := chroma.Play(a.start, a.scripts, a.picks); fmt.Sprint(again) != text {
			t.Errorf("played again: %v, want %s", again, text)
		}
	}
	scribble(a.start, api.Node{})
	scribble(a.scripts[0], api.Op{})
	scribble(a.picks, -1)
	if fmt.Sprint(first) != text {
		t.Errorf("%v, want %s", first, text)
	}
}
