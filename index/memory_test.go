package index_test

import (
	"fmt"
	"slices"
	"testing"

	"larch/api"
	"larch/index"
)

// roomy: a list with spare room behind it.
func roomy[T any](spare T, list ...T) []T {
	room := append(slices.Clone(list), spare, spare, spare)
	return room[:len(list):len(room)]
}

// scribble writes all over a list, spare room included.
func scribble[T any](list []T, with T) {
	for i := range list[:cap(list)] {
		list[:cap(list)][i] = with
	}
}

// asset is what a call is handed, all with spare room.
type asset struct {
	start   []api.Pair
	scripts [][]api.Op
	picks   []int
}

func newAsset() asset {
	odd := api.Op{Kind: 99, Key: 98}
	mine := func(list ...api.Op) []api.Op { return roomy(odd, list...) }
	return asset{
		start:   roomy(api.Pair{Key: -77, Val: -78}, pairsOf(3, 30, 1, 10, 2, 20, 5, 50, 1, 11)...),
		scripts: roomy(mine(odd), mine(put(2, 21), everything(), del(1), rangeOf(0, 4), least()), mine(everything(), ifAbsent(4, 40), del(3)), mine()),
		picks:   roomy(1, slices.Concat(times(25, 0), times(12, 1), []int{2, 9, -1}, times(9, 0), times(30, 1), times(200, 0), times(300, 1))...),
	}
}

// picture: all of it, spare room included.
func (a asset) picture() string {
	text := fmt.Sprint(a.start[:cap(a.start)], a.picks[:cap(a.picks)])
	for _, script := range a.scripts[:cap(a.scripts)] {
		text += fmt.Sprint(len(script), script[:cap(script)])
	}
	return text
}

func TestNothingHandedInIsChanged(t *testing.T) { // P24.6
	a := newAsset()
	all := a.scripts[:cap(a.scripts)]
	for name, call := range map[string]func() api.Errno{
		"Of": func() api.Errno {
			h := index.Of(a.start).Handle(nil)
			h.Put(1, 12)
			h.Delete(2)
			return api.OK
		},
		"Play":                  func() api.Errno { _, e := index.Play(a.start, a.scripts, a.picks); return e },
		"Alone":                 func() api.Errno { _, _, e := index.Alone(a.start, a.scripts[0]); return e },
		"Take":                  func() api.Errno { _, e := index.Take(a.start, index.Up, 2, 9); return e },
		"Weave":                 func() api.Errno { _, _, _, e := index.Weave(a.start, index.Down, 9, a.scripts[0]); return e },
		"Play that is refused":  func() api.Errno { _, e := index.Play(a.start, all, a.picks); return e - api.ErrKind },
		"Alone that is refused": func() api.Errno { _, _, e := index.Alone(a.start, all[0][:6]); return e - api.ErrKind },
		"Take that is refused":  func() api.Errno { _, e := index.Take(a.start, 0, 2, 9); return e - api.ErrKind },
		"Weave that is refused": func() api.Errno {
			_, _, _, e := index.Weave(a.start, index.All, 9, all[0][:6])
			return e - api.ErrKind
		},
	} {
		before := a.picture()
		if e := call(); e != api.OK {
			t.Errorf("%s: %d", name, e)
		}
		if a.picture() != before {
			t.Errorf("%s has changed what it was handed", name)
		}
	}
}

// overwriteRets writes all over answers, and the pairs in them.
func overwriteRets(rets []api.Ret) {
	for _, ret := range rets {
		scribble(ret.Pairs, api.Pair{Key: -551})
	}
	scribble(rets, api.Ret{Val: -555})
}

// overwrite writes all over what a run answered.
func overwrite(p index.Played) {
	for _, e := range p.History {
		scribble(e.Ret.Pairs, api.Pair{Key: -552})
	}
	scribble(p.Steps, api.Step{Kind: -558})
	scribble(p.Ended, true)
	scribble(p.History, api.Event{Thread: -559})
	scribble(p.Table, api.Node{Key: -560})
}

// TestAnswersAreNewMemory: writing all over the answers, the pairs in them too, changes neither what was handed in nor other answers.
func TestAnswersAreNewMemory(t *testing.T) { // P24.6
	a := newAsset()
	before := a.picture()
	answers := func() string {
		p, _ := index.Play(a.start, a.scripts, a.picks)
		rets, list, _ := index.Alone(a.start, a.scripts[0])
		took, _ := index.Take(a.start, index.All, 0, 9)
		given, woven, end, _ := index.Weave(a.start, index.All, 0, a.scripts[0])
		text := fmt.Sprint(p, rets, list, took, given, woven, end)
		scribble(list, api.Node{Key: -556})
		scribble(took, api.Pair{Key: -557})
		scribble(given, api.Pair{Key: -557})
		scribble(end, api.Pair{Key: -557})
		if rest := fmt.Sprint(p, rets); rest != text[:len(rest)] {
			t.Error("the answers share memory with one another")
		}
		overwriteRets(woven)
		overwriteRets(rets)
		overwrite(p)
		return text
	}
	want := answers()
	if got := answers(); got != want || a.picture() != before {
		t.Errorf("the answers share memory with what was handed in, or with earlier ones: %s, want %s", got, want)
	}
}

// TestNothingIsKept: what is handed in may be written to behind the call, and so may an answer.
func TestNothingIsKept(t *testing.T) { // P24.6
	a := newAsset()
	m := index.Of(a.start)
	h := m.Handle(nil)
	want, all := m.Table(), h.Range(0, 9)
	p, _ := index.Play(a.start, a.scripts, a.picks)
	rets, _, _ := index.Alone(a.start, a.scripts[0])
	text := fmt.Sprint(p, rets)
	scribble(a.start, api.Pair{Key: -555})
	scribble(a.scripts[0], api.Op{})
	scribble(a.picks, -1)
	if fmt.Sprint(p, rets) != text {
		t.Errorf("%v, %v, want %s", p, rets, text)
	}
	scribble(m.Table(), api.Node{Key: -556})
	scribble(h.Range(0, 9), api.Pair{Key: -557})
	ret, _ := h.Do(rangeOf(0, 9))
	scribble(ret.Pairs, api.Pair{Key: -558})
	if !slices.Equal(m.Table(), want) || !slices.Equal(h.Range(0, 9), all) {
		t.Errorf("it holds %v, want %v", m.Table(), want)
	}
}

// TestTheSameAgain: the same play gives the same, so often as it is played, and whatever other maps there are.
func TestTheSameAgain(t *testing.T) { // P24.6
	a := newAsset()
	first, _ := index.Play(a.start, a.scripts, a.picks)
	others := []*index.Map{index.New(), index.Of(a.start)}
	for range 3 {
		for _, m := range others {
			m.Handle(nil).Put(1, 99)
			m.Handle(nil).Delete(5)
		}
		if again, _ := index.Play(a.start, a.scripts, a.picks); fmt.Sprint(again) != fmt.Sprint(first) {
			t.Errorf("played again: %v, want %v", again, first)
		}
	}
	if !slices.Equal(pairsIn(t, others[0].Table()), pairsOf(1, 99)) || !slices.Equal(pairsIn(t, others[1].Table()), pairsOf(1, 99, 2, 20, 3, 30)) {
		t.Errorf("the other maps hold %v, %v", others[0].Table(), others[1].Table())
	}
}
