package chain_test

import (
	"fmt"
	"slices"
	"testing"

	"larch/api"
	"larch/chain"
)

// roomy: a list with spare room behind it.
func roomy[T any](spare T, list ...T) []T {
	room := append(list, spare, spare, spare)
	return room[:len(list):len(room)]
}

// scribble writes all over a list, spare room included.
func scribble[T any](list []T, with T) {
	for i := range list[:cap(list)] {
		list[:cap(list)][i] = with
	}
}

// asset is what a call is handed, all with spare room.
type asset struct {
	pairs   []api.Pair
	scripts [][]api.Op
	picks   []int
}

func newAsset() asset {
	odd := api.Op{Kind: 99, Key: 98}
	mine := func(list ...api.Op) []api.Op { return roomy(odd, list...) }
	return asset{
		pairs:   roomy(api.Pair{Key: -77, Val: -78}, chainOf(1, 10, 2, 20, 3, 30)...),
		scripts: roomy(mine(odd), mine(between(1, 3), put(2, 21), del(1), between(0, 9)), mine(del(2), ifAbsent(2, 22), between(2, 3)), mine()),
		picks:   roomy(1, slices.Concat(times(25, 0), times(12, 1), []int{2, 9, -1}, times(9, 0), times(30, 1), times(90, 0), times(90, 1))...),
	}
}

// picture: all of it, spare room included.
func (a asset) picture() string {
	text := fmt.Sprint(a.pairs[:cap(a.pairs)], a.picks[:cap(a.picks)])
	for _, script := range a.scripts[:cap(a.scripts)] {
		text += fmt.Sprint(len(script), script[:cap(script)])
	}
	return text
}

func TestNothingHandedInIsChanged(t *testing.T) { // P15.6
	a := newAsset()
	all := a.scripts[:cap(a.scripts)]
	for name, call := range map[string]func() api.Errno{
		"New": func() api.Errno {
			c, e := chain.New(a.pairs)
			c.Put(nil, 1, 11)
			c.Delete(nil, 2)
			return e
		},
		"New that is refused":   func() api.Errno { _, e := chain.New(a.pairs[:5]); return e - api.ErrOrder },
		"Play":                  func() api.Errno { _, e := chain.Play(a.pairs, a.scripts, a.picks); return e },
		"Alone":                 func() api.Errno { _, _, _, e := chain.Alone(a.pairs, a.scripts[0]); return e },
		"Play that is refused":  func() api.Errno { _, e := chain.Play(a.pairs, all, a.picks); return e - api.ErrKind },
		"Alone that is refused": func() api.Errno { _, _, _, e := chain.Alone(a.pairs, all[0][:5]); return e - api.ErrKind },
	} {
		before := a.picture()
		if e := call(); e != api.OK {
			t.Errorf("%s: %d", name, e)
		}
		if a.picture() != before {
			t.Errorf("%s has changed what it was handed", name)
		}
	}
}

// TestAnswersAreNewMemory: writing all over the answers changes neither what was handed in nor later answers, nor one another.
func TestAnswersAreNewMemory(t *testing.T) { // P15.6
	a := newAsset()
	before := a.picture()
	answers := func() string {
		p, _ := chain.Play(a.pairs, a.scripts, a.picks)
		rets, left, tape, _ := chain.Alone(a.pairs, a.scripts[0])
		text := fmt.Sprint(p, rets, left, tape)
		for i := range rets {
			rest := fmt.Sprint(p, rets[:i], rets[i+1:], left)
			scribble(rets[i].Pairs, api.Pair{Key: -555, Val: i})
			if fmt.Sprint(p, rets[:i], rets[i+1:], left) != rest {
				t.Errorf("answer %d of Alone shares memory with another one", i)
			}
		}
		for i := range p.History {
			rest := fmt.Sprint(p.History[:i], p.History[i+1:], p.Left, p.Told)
			scribble(p.History[i].Ret.Pairs, api.Pair{Key: -556, Val: i})
			if fmt.Sprint(p.History[:i], p.History[i+1:], p.Left, p.Told) != rest {
				t.Errorf("event %d of Play shares memory with another one", i)
			}
		}
		scribble(left, api.Pair{Key: -557})
		scribble(p.Left, api.Pair{Key: -558})
		scribble(tape, -559)
		scribble(p.Steps, api.Step{Kind: -560})
		scribble(p.Ended, true)
		scribble(p.Panics, true)
		scribble(p.History, api.Event{Thread: -561})
		scribble(rets, api.Ret{Val: -562})
		return text
	}
	want := answers()
	if got := answers(); got != want || a.picture() != before {
		t.Errorf("the answers share memory with what was handed in, or with earlier ones: %s, want %s", got, want)
	}
}

// TestNothingIsKept: what is handed in may be written to behind the call, and so may an answer.
func TestNothingIsKept(t *testing.T) { // P15.6
	pairs := chainOf(1, 10, 2, 20)
	c := mustNew(t, pairs)
	scribble(pairs, api.Pair{Key: -555})
	scribble(c.Pairs(), api.Pair{Key: -556})
	scribble(c.Range(nil, 0, 9), api.Pair{Key: -557})
	ret, _ := c.Do(nil, between(0, 9))
	scribble(ret.Pairs, api.Pair{Key: -558})
	if want := chainOf(1, 10, 2, 20); !slices.Equal(c.Pairs(), want) || !slices.Equal(c.Range(nil, 0, 9), want) {
		t.Errorf("it holds %v", c.Pairs())
	}
}

func TestTwoChainsHaveNothingInCommon(t *testing.T) { // P15.6
	pairs := chainOf(1, 10, 2, 20)
	a, b := mustNew(t, pairs), mustNew(t, pairs)
	a.Put(nil, 1, 11)
	a.Put(nil, 3, 30)
	b.Delete(nil, 1)
	b.Delete(nil, 2)
	if !slices.Equal(a.Pairs(), chainOf(1, 11, 2, 20, 3, 30)) || len(b.Pairs()) != 0 {
		t.Errorf("a holds %v, b %v", a.Pairs(), b.Pairs())
	}
	for range 3 {
		wantPlay(t, nil, workers(ops(put(1, 1), del(1))), times(60, 0))
	}
}
