package scan_test

import (
	"fmt"
	"slices"
	"testing"

	"larch/api"
	"larch/scan"
)

// roomy: a list with spare room behind it.
func roomy[T any](spare T, list ...T) []T {
	room := append(slices.Clone(list), spare, spare, spare)
	return room[:len(list):len(room)]
}

// scribble writes all over a list, spare room included.
func scribble[T any](list []T, with T) {
	for i := range list[:cap(list)] {
		list[:cap(list)][i] = with
	}
}

// asset is what a call is handed, all with spare room.
type asset struct {
	start   []api.Node
	reads   []api.Op
	scripts [][]api.Op
	picks   []int
}

func newAsset(t *testing.T) asset {
	odd := api.Op{Kind: 99, Key: 98}
	mine := func(list ...api.Op) []api.Op { return roomy(odd, list...) }
	return asset{
		start:   roomy(api.Node{Key: -77, Left: -78}, below(t, "(5:1 (2:0 (1:3=10) (2:3=20)) (7:1 (6:1 (5:1=50) (6:1=60)) (8:1 (7:1=70) (8:1=80))))")...),
		reads:   mine(everything(), rangeOf(2, 6), least(), greatest(), after(2), before(2), get(7)),
		scripts: roomy(mine(odd), mine(put(2, 21), everything(), del(1), least()), mine(rangeOf(1, 6), ifAbsent(2, 22), del(6), after(1)), mine()),
		picks:   roomy(1, slices.Concat(times(25, 0), times(12, 1), []int{2, 9, -1}, times(9, 0), times(30, 1), times(90, 0), times(60, 1), times(300, 0), times(300, 1))...),
	}
}

// picture: all of it, spare room included.
func (a asset) picture() string {
	text := fmt.Sprint(a.start[:cap(a.start)], a.reads[:cap(a.reads)], a.picks[:cap(a.picks)])
	for _, script := range a.scripts[:cap(a.scripts)] {
		text += fmt.Sprint(len(script), script[:cap(script)])
	}
	return text
}

func TestNothingHandedInIsChanged(t *testing.T) { // P23.6
	a := newAsset(t)
	all := a.scripts[:cap(a.scripts)]
	for name, call := range map[string]func() api.Errno{
		"On":                   func() api.Errno { _, e := scan.On(a.start, a.reads); return e },
		"Tries":                func() api.Errno { _, e := scan.Tries(a.start, a.reads[0]); return e },
		"Play":                 func() api.Errno { _, e := scan.Play(a.start, a.scripts, a.picks); return e },
		"On that is refused":   func() api.Errno { _, e := scan.On(a.start, a.reads[:cap(a.reads)]); return e - api.ErrKind },
		"Play that is refused": func() api.Errno { _, e := scan.Play(a.start, all, a.picks); return e - api.ErrKind },
		"a table with too much": func() api.Errno {
			_, e := scan.Play(a.start[:len(a.start)+1], a.scripts, a.picks)
			return e - api.ErrForm
		},
	} {
		before := a.picture()
		if e := call(); e != api.OK {
			t.Errorf("%s: %d", name, e)
		}
		if a.picture() != before {
			t.Errorf("%s has changed what it was handed", name)
		}
	}
}

// overwriteRets writes all over answers, and the pairs in them.
func overwriteRets(rets []api.Ret) {
	for _, ret := range rets {
		scribble(ret.Pairs, api.Pair{Key: -551})
	}
	scribble(rets, api.Ret{Val: -555})
}

// overwrite writes all over what a run answered.
func overwrite(p scan.Played) {
	for _, e := range p.History {
		scribble(e.Ret.Pairs, api.Pair{Key: -552})
	}
	scribble(p.Steps, api.Step{Kind: -558})
	scribble(p.Ended, true)
	scribble(p.Panics, true)
	scribble(p.History, api.Event{Thread: -559})
	scribble(p.Table, api.Node{Key: -560})
}

// TestAnswersAreNewMemory: writing all over the answers changes neither what was handed in nor other answers.
func TestAnswersAreNewMemory(t *testing.T) { // P23.6
	a := newAsset(t)
	before := a.picture()
	answers := func() string {
		p, _ := scan.Play(a.start, a.scripts, a.picks)
		rets, _ := scan.On(a.start, a.reads)
		text := fmt.Sprint(p, rets)
		overwriteRets(rets)
		if rest := fmt.Sprint(p); rest != text[:len(rest)] {
			t.Error("the answers share memory with one another")
		}
		overwrite(p)
		return text
	}
	want := answers()
	if got := answers(); got != want || a.picture() != before {
		t.Errorf("the answers share memory with what was handed in, or with earlier ones: %s, want %s", got, want)
	}
	rets, _ := scan.On(a.start, ops(everything(), everything()))
	scribble(rets[0].Pairs, api.Pair{})
	if !slices.Equal(rets[1].Pairs, pairsIn(t, a.start)) {
		t.Errorf("two lists of one answer share memory: %v", rets)
	}
}

// TestTreesAreLeftAsTheyWere: writing all over the pairs of a Range changes no tree.
func TestTreesAreLeftAsTheyWere(t *testing.T) { // P23.4, P23.6
	a := newAsset(t)
	entry := entryOf(t, a.start)
	before := tableOf(t, entry)
	list := scan.Range(nil, entry, 0, 99)
	want := slices.Clone(list)
	scribble(list, api.Pair{Key: -1})
	if got := scan.Range(nil, entry, 0, 99); !slices.Equal(got, want) || !slices.Equal(tableOf(t, entry), before) {
		t.Errorf("Range = %v, want %v", got, want)
	}
}

// TestNothingIsKept: what was handed in may be written to behind a call; the same play again gives the same.
func TestNothingIsKept(t *testing.T) { // P23.6
	a := newAsset(t)
	first, _ := scan.Play(a.start, a.scripts, a.picks)
	rets, _ := scan.On(a.start, a.reads)
	text := fmt.Sprint(first, rets)
	for range 3 {
		again, _ := scan.Play(a.start, a.scripts, a.picks)
		if fmt.Sprint(again, rets) != text {
			t.Errorf("played again: %v, want %s", again, text)
		}
	}
	scribble(a.start, api.Node{})
	scribble(a.reads, api.Op{})
	scribble(a.scripts[0], api.Op{})
	scribble(a.picks, -1)
	if fmt.Sprint(first, rets) != text {
		t.Errorf("%v, want %s", first, text)
	}
}
