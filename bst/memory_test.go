package bst_test

import (
	"fmt"
	"slices"
	"testing"

	"larch/api"
	"larch/bst"
	"larch/table"
)

// roomy: a list with spare room behind it.
func roomy[T any](spare T, list ...T) []T {
	room := append(list, spare, spare, spare)
	return room[:len(list):len(room)]
}

// scribble writes all over a list, spare room included.
func scribble[T any](list []T, with T) {
	for i := range list[:cap(list)] {
		list[:cap(list)][i] = with
	}
}

// asset is what a call is handed, all with spare room.
type asset struct {
	start   []api.Pair
	scripts [][]api.Op
	picks   []int
}

func newAsset() asset {
	odd := api.Op{Kind: 99, Key: 98}
	mine := func(list ...api.Op) []api.Op { return roomy(odd, list...) }
	return asset{
		start:   roomy(api.Pair{Key: -77, Val: -78}, pairsOf(3, 30, 1, 10, 2, 20, 1, 11)...),
		scripts: roomy(mine(odd), mine(put(2, 21), del(1), get(2)), mine(del(2), ifAbsent(2, 22), del(3)), mine()),
		picks:   roomy(1, slices.Concat(times(25, 0), times(12, 1), []int{2, 9, -1}, times(9, 0), times(30, 1), times(90, 0), times(60, 1))...),
	}
}

// picture: all of it, spare room included.
func (a asset) picture() string {
	text := fmt.Sprint(a.start[:cap(a.start)], a.picks[:cap(a.picks)])
	for _, script := range a.scripts[:cap(a.scripts)] {
		text += fmt.Sprint(len(script), script[:cap(script)])
	}
	return text
}

func TestNothingHandedInIsChanged(t *testing.T) { // P21.6
	a := newAsset()
	all := a.scripts[:cap(a.scripts)]
	for name, call := range map[string]func() api.Errno{
		"Of": func() api.Errno {
			b := bst.Of(a.start)
			b.Put(nil, 1, 12)
			b.Delete(nil, 2)
			return api.OK
		},
		"Play":                  func() api.Errno { _, e := bst.Play(a.start, a.scripts, a.picks); return e },
		"Alone":                 func() api.Errno { _, _, e := bst.Alone(a.start, a.scripts[0]); return e },
		"Kinds":                 func() api.Errno { _, e := bst.Kinds(a.start, a.scripts[0]); return e },
		"Play that is refused":  func() api.Errno { _, e := bst.Play(a.start, all, a.picks); return e - api.ErrKind },
		"Alone that is refused": func() api.Errno { _, _, e := bst.Alone(a.start, all[0][:4]); return e - api.ErrKind },
		"Kinds that is refused": func() api.Errno { _, e := bst.Kinds(a.start, all[0][:4]); return e - api.ErrKind },
	} {
		before := a.picture()
		if e := call(); e != api.OK {
			t.Errorf("%s: %d", name, e)
		}
		if a.picture() != before {
			t.Errorf("%s has changed what it was handed", name)
		}
	}
}

// TestAnswersAreNewMemory: writing all over the answers changes neither what was handed in nor later answers.
func TestAnswersAreNewMemory(t *testing.T) { // P21.6
	a := newAsset()
	before := a.picture()
	answers := func() string {
		p, _ := bst.Play(a.start, a.scripts, a.picks)
		rets, tree, _ := bst.Alone(a.start, a.scripts[0])
		kinds, _ := bst.Kinds(a.start, a.scripts[0])
		text := fmt.Sprint(p, rets, tree, kinds)
		scribble(rets, api.Ret{Val: -555})
		scribble(tree, api.Node{Key: -556})
		scribble(kinds, -557)
		if fmt.Sprint(p) != text[:len(fmt.Sprint(p))] {
			t.Error("the answers share memory with one another")
		}
		scribble(p.Steps, api.Step{Kind: -558})
		scribble(p.Ended, true)
		scribble(p.History, api.Event{Thread: -559})
		scribble(p.Table, api.Node{Key: -560})
		return text
	}
	want := answers()
	if got := answers(); got != want || a.picture() != before {
		t.Errorf("the answers share memory with what was handed in, or with earlier ones: %s, want %s", got, want)
	}
}

// TestNothingIsKept: what is handed in may be written to behind the call, and so may an answer.
func TestNothingIsKept(t *testing.T) { // P21.6
	pairs := pairsOf(2, 20, 1, 10)
	b := bst.Of(pairs)
	want := b.Table()
	scribble(pairs, api.Pair{Key: -555})
	scribble(b.Table(), api.Node{Key: -556})
	if !slices.Equal(b.Table(), want) {
		t.Errorf("it holds %v, want %v", b.Table(), want)
	}
}

func TestTwoTreesHaveNothingInCommon(t *testing.T) { // P21.6
	pairs := pairsOf(1, 10, 2, 20)
	a, b, c := bst.Of(pairs), bst.Of(pairs), bst.New()
	a.Put(nil, 1, 11)
	a.Put(nil, 3, 30)
	b.Delete(nil, 1)
	b.Delete(nil, 2)
	c.Put(nil, 5, 50)
	left, _ := table.Pairs(a.Table())
	alone, _ := table.Pairs(c.Table())
	if !slices.Equal(left, pairsOf(1, 11, 2, 20, 3, 30)) || !slices.Equal(b.Table(), table.Empty()) || !slices.Equal(alone, pairsOf(5, 50)) {
		t.Errorf("a holds %v, b %v, c %v", left, b.Table(), alone)
	}
	first := wantPlay(t, nil, workers(ops(put(1, 1), del(1))), times(50, 0))
	for range 3 {
		if again := wantPlay(t, nil, workers(ops(put(1, 1), del(1))), times(50, 0)); fmt.Sprint(again) != fmt.Sprint(first) {
			t.Errorf("played again: %v, want %v", again, first)
		}
	}
}
