package queue_test

import (
	"fmt"
	"slices"
	"testing"

	"larch/api"
	"larch/queue"
)

// roomy: a list with spare room behind it.
func roomy[T any](spare T, list ...T) []T {
	room := append(list, spare, spare, spare)
	return room[:len(list):len(room)]
}

// asset is what a call is handed, all with spare room.
type asset struct {
	vals, picks []int
	scripts     [][]api.Op
}

func newAsset() asset {
	odd := api.Op{Kind: 99, Val: 98}
	mine := func(list ...api.Op) []api.Op { return roomy(odd, list...) }
	return asset{
		vals:    roomy(77, 7, 6, 5),
		picks:   roomy(1, 0, 1, 0, 1, 0, 0, 1, 1, 0, 0, 0, 9, -1, 1, 1, 1, 0, 0, 2, 1),
		scripts: roomy(mine(odd), mine(put(4), take, put(3)), mine(take, put(2), take), mine()),
	}
}

// picture: all of it, spare room included.
func (a asset) picture() string {
	text := fmt.Sprint(a.vals[:cap(a.vals)], a.picks[:cap(a.picks)])
	for _, script := range a.scripts[:cap(a.scripts)] {
		text += fmt.Sprint(len(script), script[:cap(script)])
	}
	return text
}

func TestNothingHandedInIsChanged(t *testing.T) { // P10.7
	a := newAsset()
	whole := a.scripts[:cap(a.scripts)]
	for name, call := range map[string]func() api.Errno{
		"New":                   func() api.Errno { queue.New(a.vals).Put(nil, 1); return api.OK },
		"Play":                  func() api.Errno { _, e := queue.Play(a.vals, a.scripts, a.picks); return e },
		"Alone":                 func() api.Errno { _, _, e := queue.Alone(a.vals, a.scripts[0]); return e },
		"Kinds":                 func() api.Errno { _, e := queue.Kinds(a.vals, a.scripts[0]); return e },
		"Rush":                  func() api.Errno { _, _, e := queue.Rush(a.vals, a.scripts); return e },
		"Play that is refused":  func() api.Errno { _, e := queue.Play(a.vals, whole, a.picks); return e - api.ErrKind },
		"Alone that is refused": func() api.Errno { _, _, e := queue.Alone(a.vals, whole[0][:4]); return e - api.ErrKind },
		"Kinds that is refused": func() api.Errno { _, e := queue.Kinds(a.vals, whole[0][:4]); return e - api.ErrKind },
		"Rush that is refused":  func() api.Errno { _, _, e := queue.Rush(a.vals, whole); return e - api.ErrKind },
	} {
		before := a.picture()
		if e := call(); e != api.OK {
			t.Errorf("%s: %d", name, e)
		}
		if a.picture() != before {
			t.Errorf("%s has changed what it was handed", name)
		}
	}
}

// scribble writes all over a list, spare room included.
func scribble[T any](list []T, with T) {
	for i := range list[:cap(list)] {
		list[:cap(list)][i] = with
	}
}

// TestAnswersAreNewMemory: writing all over the answers changes neither what was handed in nor later answers.
func TestAnswersAreNewMemory(t *testing.T) { // P10.7
	a := newAsset()
	before := a.picture()
	answers := func() string {
		p, _ := queue.Play(a.vals, a.scripts, a.picks)
		rets, left, _ := queue.Alone(a.vals, a.scripts[0])
		kinds, _ := queue.Kinds(a.vals, a.scripts[0])
		rushed, is, _ := queue.Rush(a.vals, a.scripts)
		text := fmt.Sprint(p, rets, left, kinds, rushed, is)
		for _, list := range [][]int{p.Items, left, kinds, rushed} {
			scribble(list, -555)
		}
		scribble(p.Steps, api.Step{Kind: -556})
		scribble(p.Ended, true)
		scribble(p.History, api.Event{Thread: -557})
		scribble(rets, api.Ret{Val: -558})
		return text
	}
	want := answers()
	if got := answers(); got != want || a.picture() != before {
		t.Errorf("the answers share memory with what was handed in, or with earlier ones: %s, want %s", got, want)
	}
}

// TestNothingIsKept: what is handed in may be written to behind the call, and so may an answer.
func TestNothingIsKept(t *testing.T) { // P10.7
	vals := []int{1, 2, 3}
	q := queue.New(vals)
	scribble(vals, -555)
	scribble(q.Items(), -556)
	if !slices.Equal(q.Items(), []int{1, 2, 3}) {
		t.Errorf("it holds %v", q.Items())
	}
}

func TestTwoQueuesHaveNothingInCommon(t *testing.T) { // P10.7
	vals := []int{1, 2}
	a, b := queue.New(vals), queue.New(vals)
	a.Put(nil, 3)
	b.Take(nil)
	b.Take(nil)
	b.Take(nil)
	b.Put(nil, 4)
	a.Take(nil)
	if !slices.Equal(a.Items(), []int{2, 3}) || !slices.Equal(b.Items(), []int{4}) || a.Lag()+b.Lag() != 0 {
		t.Errorf("a holds %v, b %v", a.Items(), b.Items())
	}
	for range 3 {
		wantPlay(t, nil, workers(ops(put(1), take)), make([]int, 8))
		wantAlone(t, nil, ops(put(1), put(2), take))
	}
}
