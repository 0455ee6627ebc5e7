package search_test

import (
	"fmt"
	"testing"

	"larch/api"
	"larch/search"
)

// roomy: a list with spare room behind it.
func roomy[T any](spare T, list ...T) []T {
	room := append(list, spare, spare, spare)
	return room[:len(list):len(room)]
}

// asset is what a call is handed.
type asset struct {
	thing int
	s     search.State
	op    api.Op
	ops   []api.Op
	h     []api.Event
	order []int
}

// assets: of each thing a state, operations and a history, all with spare room; the history is right in the order.
func assets() []asset {
	var list []asset
	for _, thing := range all {
		s := starts(thing)[1]
		s.Vals, s.Pairs = roomy(77, s.Vals...), roomy(api.Pair{Key: 77, Val: 78}, s.Pairs...)
		words := alphabet(thing)
		h := row(thing, s, words[0], words[1], words[2])
		h = roomy(invoked(77, words[0]), append(h, invoked(8, words[1]), invoked(9, words[2]))...)
		for at := range h {
			if h[at].Return {
				h[at].Ret.Pairs = roomy(api.Pair{Key: 79}, h[at].Ret.Pairs...)
			}
		}
		ops := roomy(api.Op{Kind: 77}, words...)
		list = append(list, asset{thing: thing, s: s, op: words[1], ops: ops, h: h, order: roomy(76, 0, 1, 2, 4)})
	}
	return list
}

// picture: all of it, spare room included.
func (a asset) picture() string {
	text := fmt.Sprint(a.s.Vals[:cap(a.s.Vals)], a.s.Pairs[:cap(a.s.Pairs)], a.ops[:cap(a.ops)], a.order[:cap(a.order)])
	for _, e := range a.h[:cap(a.h)] {
		text += fmt.Sprint(e, e.Ret.Pairs[:cap(e.Ret.Pairs)])
	}
	return text
}

func TestNothingHandedInIsChanged(t *testing.T) { // P7.5
	for _, a := range assets() {
		for name, call := range map[string]func(){
			"Check":  func() { search.Check(a.thing, a.s) },
			"Do":     func() { search.Do(a.thing, a.s, a.op) },
			"Do all": func() { doAll(a) },
			"Run":    func() { search.Run(a.thing, a.s, a.ops) },
			"Find":   func() { search.Find(a.thing, a.s, a.h) },
			"Is":     func() { search.Is(a.thing, a.s, a.h, a.order) },
			"Count":  func() { search.Count(a.thing, a.s, a.h) },
			"Ends":   func() { search.Ends(a.thing, a.s, a.h) },
			"refused": func() {
				search.Find(9, a.s, a.h)
				search.Ends(a.thing, a.s, a.h[1:])
				search.Run(a.thing, a.s, a.ops[:cap(a.ops)])
			},
		} {
			before := a.picture()
			call()
			if a.picture() != before {
				t.Errorf("%s of thing %d has changed what it was handed", name, a.thing)
			}
		}
	}
}

func doAll(a asset) {
	for _, op := range a.ops {
		search.Do(a.thing, a.s, op)
	}
}

// scribble writes all over a state, spare room included.
func scribble(s search.State) {
	for i := range s.Vals[:cap(s.Vals)] {
		s.Vals[:cap(s.Vals)][i] = -555
	}
	for i := range s.Pairs[:cap(s.Pairs)] {
		s.Pairs[:cap(s.Pairs)][i] = api.Pair{Key: -555}
	}
}

func scribbleRets(rets []api.Ret) {
	for i := range rets {
		whole := rets[i].Pairs[:cap(rets[i].Pairs)]
		for j := range whole {
			whole[j] = api.Pair{Key: -556}
		}
	}
}

func TestAnswersAreNewMemory(t *testing.T) { // P7.5
	for _, a := range assets() {
		before := a.picture()
		answers := func() string {
			end, ret, _ := search.Do(a.thing, a.s, a.op)
			behind, rets, _ := search.Run(a.thing, a.s, a.ops)
			same, _, _ := search.Run(a.thing, a.s, nil)
			first, _, _ := search.Find(a.thing, a.s, a.h)
			ends, _ := search.Ends(a.thing, a.s, a.h)
			text := fmt.Sprint(end, ret, behind, rets, same, first, ends)
			scribble(end)
			scribble(behind)
			scribble(same)
			scribbleRets(append(rets, ret))
			for _, s := range ends {
				scribble(s)
			}
			for i := range first[:cap(first)] {
				first[:cap(first)][i] = -557
			}
			return text
		}
		want := answers()
		if got := answers(); got != want || a.picture() != before {
			t.Errorf("thing %d: the answers share memory with what was handed in: %s, want %s", a.thing, got, want)
		}
	}
}

// TestAnswersShareNothing: writing to one list of an answer changes no other.
func TestAnswersShareNothing(t *testing.T) { // P7.5
	for _, a := range assets() {
		ends, _ := search.Ends(a.thing, a.s, a.h)
		for i := range ends {
			others := fmt.Sprint(ends[:i], ends[i+1:])
			scribble(ends[i])
			if fmt.Sprint(ends[:i], ends[i+1:]) != others {
				t.Errorf("thing %d: state %d shares memory with another one", a.thing, i)
			}
		}
		end, rets, _ := search.Run(a.thing, a.s, a.ops)
		before := fmt.Sprint(rets)
		scribble(end)
		if fmt.Sprint(rets) != before {
			t.Errorf("thing %d: Run's answers share memory with its state", a.thing)
		}
	}
	whole := api.Op{Kind: api.Range, Key: 0, Hi: 9}
	_, rets, _ := search.Run(search.Map, pairs(api.Pair{Key: 1}, api.Pair{Key: 2}), []api.Op{whole, whole})
	scribbleRets(rets[:1])
	if fmt.Sprint(rets[1].Pairs) != "[{1 0} {2 0}]" {
		t.Error("two answers of Run share their pairs")
	}
}
