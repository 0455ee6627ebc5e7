package judge_test

import (
	"fmt"
	"slices"
	"testing"

	"larch/api"
	"larch/judge"
	"larch/play"
)

// roomy: a list with spare room behind it.
func roomy[T any](spare T, list ...T) []T {
	room := append(slices.Clone(list), spare, spare, spare)
	return room[:len(list):len(room)]
}

// scribble writes all over a list, spare room included.
func scribble[T any](list []T, with T) {
	for i := range list[:cap(list)] {
		list[:cap(list)][i] = with
	}
}

// asset is what calls are handed, all with spare room.
type asset struct {
	start, end []api.Pair
	h, keyed   []api.Event // keyed: of the kinds that Keys takes
	a, b       []api.Node
	g          play.Game
}

func newAsset(t *testing.T) asset {
	t.Helper()
	odd := api.Op{Kind: 99, Key: 98}
	pairs := func(numbers ...int) []api.Pair { return roomy(api.Pair{Key: -77, Val: -78}, pairsOf(numbers...)...) }
	events := func(list ...api.Event) []api.Event { return roomy(api.Event{Thread: 66}, list...) }
	strange := api.Ret{Ok: true, Val: 1, Pairs: pairs(5, 6)} // of a Get
	return asset{
		start: pairs(3, 30, 1, 10, 2, 20, 1, 11),
		end:   pairs(2, 20, 1, 11),
		h:     events(invoked(1, put(4, 40)), invoked(0, everything()), answered(0, everything(), api.Ret{Ok: true, Pairs: pairs(1, 11, 2, 20, 3, 30)}), invoked(0, del(3)), answered(0, del(3), ok(30)), invoked(0, get(9)), answered(0, get(9), no())),
		keyed: events(invoked(1, put(4, 40)), invoked(0, get(1)), answered(0, get(1), ok(11)), invoked(0, put(1, 1)), answered(0, put(1, 1), ok(11)), invoked(0, get(1)), answered(0, get(1), strange)),
		a:     roomy(api.Node{Key: -79}, treeOf(t, "(4:1 (1:1=0) (4:1=5))")...),
		b:     roomy(api.Node{Key: -80}, treeOf(t, "(4:1 (2:1=7) (4:1=6))")...),
		g: play.Game{
			Start:   pairs(3, 30, 1, 10, 2, 20, 1, 11),
			Scripts: roomy(ops(odd), roomy(odd, put(2, 21), everything(), del(1)), roomy(odd, everything(), ifAbsent(4, 40), del(3)), roomy(odd)),
			Picks:   roomy(1, slices.Concat(times(25, 0), times(12, 1), []int{2, 9, -1}, times(9, 0), times(30, 1), times(100, 0))...),
		},
	}
}

// picture: all of it, spare room included.
func (s asset) picture() string {
	text := fmt.Sprint(s.start[:cap(s.start)], s.end[:cap(s.end)], s.a[:cap(s.a)], s.b[:cap(s.b)], s.g.Start[:cap(s.g.Start)], s.g.Picks[:cap(s.g.Picks)])
	for _, h := range [][]api.Event{s.h, s.keyed} {
		for _, e := range h[:cap(h)] {
			text += fmt.Sprint(e, e.Ret.Pairs[:cap(e.Ret.Pairs)])
		}
	}
	for _, script := range s.g.Scripts[:cap(s.g.Scripts)] {
		text += fmt.Sprint(len(script), script[:cap(script)])
	}
	return text
}

// tellAll calls everything, tells it as a text, and then writes all over it.
func tellAll(s asset) string {
	var text string
	tell := func(answers ...any) { text += fmt.Sprintln(answers...) }
	is, e := judge.Order(s.start, s.h)
	order, found, e2 := judge.Witness(s.start, s.h)
	tell(is, e, order, found, e2)
	is, e = judge.Keys(s.start, s.keyed)
	part, e2 := judge.Part(s.keyed, 1)
	tell(is, e, part, e2)
	is, e = judge.Tally(s.start, s.h, s.end)
	sources, e2 := judge.Sources(s.start, s.h)
	shapes, e3 := judge.Shapes(s.h)
	pending, e4 := judge.Pending(s.h)
	tell(is, e, sources, e2, shapes, e3, pending, e4)
	violations, e := judge.Violations(s.a)
	edges, bound, e2 := judge.Height(s.a)
	moved, e3 := judge.Moved(s.a, s.b)
	verdict, e4 := judge.Game(s.g)
	tell(violations, e, edges, bound, e2, moved, e3, verdict, e4)
	for _, e := range part {
		scribble(e.Ret.Pairs, api.Pair{Key: -550})
	}
	scribble(order, -551)
	scribble(part, api.Event{Thread: -552})
	scribble(moved, judge.Diff{Key: -553})
	return text
}

// callInVain calls everything with what is refused.
func callInVain(s asset) {
	h, scripts := s.h[:len(s.h)+1], s.g.Scripts[:len(s.g.Scripts)+1]
	_, _ = judge.Order(s.start, h)
	_, _, _ = judge.Witness(s.start, h)
	_, _ = judge.Keys(s.start, h)
	_, _ = judge.Keys(s.start, s.h)
	_, _ = judge.Part(h, 1)
	_, _ = judge.Tally(s.start, h, s.end)
	_, _ = judge.Sources(s.start, h)
	_, _ = judge.Shapes(h)
	_, _ = judge.Pending(h)
	_, _ = judge.Violations(s.a[:len(s.a)+1])
	_, _, _ = judge.Height(s.a[:len(s.a)+1])
	_, _ = judge.Moved(s.a, s.b[:len(s.b)+1])
	_, _ = judge.Game(play.Game{Start: s.g.Start, Scripts: scripts, Picks: s.g.Picks})
}

// TestMemory: nothing that is handed in is changed, and writing all over the answers changes neither it nor other answers.
func TestMemory(t *testing.T) { // P26.6
	s := newAsset(t)
	before := s.picture()
	want := tellAll(s)
	if s.picture() != before {
		t.Error("what was handed in is changed, or shares memory with an answer")
	}
	callInVain(s)
	if s.picture() != before {
		t.Error("a call that is refused has changed what it was handed")
	}
	if got := tellAll(s); got != want {
		t.Errorf("the second time: %s, want %s", got, want)
	}
}

// TestPartsShareNothing: what Part answers stays, whatever is done to the history then, and so do its own lists.
func TestPartsShareNothing(t *testing.T) { // P26.6
	s := newAsset(t)
	part, _ := judge.Part(s.keyed, 1)
	want := fmt.Sprint(part)
	for _, e := range s.keyed {
		scribble(e.Ret.Pairs, api.Pair{Key: -554})
	}
	scribble(s.keyed, api.Event{})
	if fmt.Sprint(part) != want || len(part) != 6 {
		t.Errorf("Part has kept what it was handed: %v, want %s", part, want)
	}
}
