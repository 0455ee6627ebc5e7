package play_test

import (
	"fmt"
	"slices"
	"testing"

	"larch/api"
	"larch/index"
	"larch/play"
)

// roomy: a list with spare room behind it.
func roomy[T any](spare T, list ...T) []T {
	room := append(slices.Clone(list), spare, spare, spare)
	return room[:len(list):len(room)]
}

// scribble writes all over a list, spare room included.
func scribble[T any](list []T, with T) {
	for i := range list[:cap(list)] {
		list[:cap(list)][i] = with
	}
}

// newGame: all with spare room.
func newGame() play.Game {
	odd := api.Op{Kind: 99, Key: 98}
	mine := func(list ...api.Op) []api.Op { return roomy(odd, list...) }
	return play.Game{
		Start:   roomy(api.Pair{Key: -77, Val: -78}, pairsOf(3, 30, 1, 10, 2, 20, 5, 50, 1, 11)...),
		Scripts: roomy(mine(odd), mine(put(2, 21), everything(), del(1), rangeOf(0, 4), least(), put(9, 9)), mine(everything(), ifAbsent(4, 40), del(3)), mine()),
		Picks:   roomy(1, slices.Concat(times(25, 0), times(12, 1), []int{2, 9, -1}, times(9, 0), times(30, 1), times(100, 0), times(100, 1))...),
	}
}

// newHistory: of three threads, with answers that have pairs and spare room.
func newHistory() []api.Event {
	whole := api.Ret{Ok: true, Pairs: roomy(api.Pair{Key: -79}, pairsOf(1, 2, 3, 4)...)}
	return roomy(api.Event{Thread: 66}, invoked(0, everything()), invoked(2, put(1, 1)), answered(0, everything(), whole), invoked(0, get(1)), answered(2, put(1, 1), api.Ret{}), answered(0, get(1), api.Ret{Ok: true, Val: 1, Pairs: roomy(api.Pair{Key: -80}, pairsOf(5, 6)...)}), invoked(1, del(2)))
}

// picture: all of it, spare room included.
func picture(g play.Game, h []api.Event) string {
	text := fmt.Sprint(g.Start[:cap(g.Start)], g.Picks[:cap(g.Picks)])
	for _, script := range g.Scripts[:cap(g.Scripts)] {
		text += fmt.Sprint(len(script), script[:cap(script)])
	}
	for _, e := range h[:cap(h)] {
		text += fmt.Sprint(e, e.Ret.Pairs[:cap(e.Ret.Pairs)])
	}
	return text
}

func TestNothingHandedInIsChanged(t *testing.T) { // P25.9
	g, h := newGame(), newHistory()
	bad := g
	bad.Scripts = g.Scripts[:cap(g.Scripts)]
	before := picture(g, h)
	for name, call := range map[string]func(g play.Game) api.Errno{
		"Check":   play.Check,
		"Run":     func(g play.Game) api.Errno { _, e := play.Run(g); return e },
		"First":   func(g play.Game) api.Errno { _, e := play.First(g, 7); return e },
		"Thin":    func(g play.Game) api.Errno { _, e := play.Thin(g); return e },
		"Tables":  func(g play.Game) api.Errno { _, e := play.Tables(g); return e },
		"Changes": func(g play.Game) api.Errno { _, e := play.Changes(g); return e },
		"Finish":  func(g play.Game) api.Errno { _, _, e := play.Finish(g, 9999); return e },
		"Solo":    func(g play.Game) api.Errno { _, _, e := play.Solo(g, 0, 9999); return e },
	} {
		if e := call(g); e != api.OK {
			t.Errorf("%s: %d", name, e)
		}
		if e := call(bad); e != api.ErrKind {
			t.Errorf("%s that is refused: %d", name, e)
		}
		if picture(g, h) != before {
			t.Errorf("%s has changed what it was handed", name)
		}
	}
	for threads, want := range []api.Errno{api.ErrForm, api.ErrForm, api.ErrForm, api.OK} {
		if _, e := play.Answers(h, threads); e != want || picture(g, h) != before {
			t.Errorf("Answers has changed what it was handed, or: %d, want %d", e, want)
		}
	}
}

// overwrite writes all over what a run answered.
func overwrite(p index.Played) {
	for _, e := range p.History {
		scribble(e.Ret.Pairs, api.Pair{Key: -552})
	}
	scribble(p.Steps, api.Step{Kind: -558})
	scribble(p.Ended, true)
	scribble(p.History, api.Event{Thread: -559})
	scribble(p.Table, api.Node{Key: -560})
}

// overwriteGame writes all over a game.
func overwriteGame(g play.Game) {
	for _, script := range g.Scripts {
		scribble(script, api.Op{Kind: -561})
	}
	scribble(g.Start, api.Pair{Key: -562})
	scribble(g.Scripts, nil)
	scribble(g.Picks, -563)
}

// tellAll calls everything, tells it as a text, and then writes all over it.
func tellAll(t *testing.T, g play.Game, h []api.Event) string {
	t.Helper()
	p, e1 := play.Run(g)
	first, e2 := play.First(g, 200)
	thin, e3 := play.Thin(g)
	tables, e4 := play.Tables(g)
	changes, e5 := play.Changes(g)
	finished, n, e6 := play.Finish(g, 9999)
	solo, m, e7 := play.Solo(g, 0, 9999)
	answers, e8 := play.Answers(h, 3)
	text := fmt.Sprint(p, first, thin, tables, changes, finished, n, solo, m, answers, e1, e2, e3, e4, e5, e6, e7, e8)
	if e := e1 + e2 + e3 + e4 + e5 + e6 + e7 + e8; e != api.OK || len(changes) == 0 {
		t.Errorf("errors: %d; changes: %v", e, changes)
	}
	scribble(changes, play.Change{Key: -553})
	overwriteGame(first)
	overwriteGame(thin)
	overwrite(p)
	overwrite(finished)
	overwrite(solo)
	return text
}

// TestAnswersAreNewMemory: writing all over the answers changes neither what was handed in nor other answers.
func TestAnswersAreNewMemory(t *testing.T) { // P25.9
	g, h := newGame(), newHistory()
	before := picture(g, h)
	want := tellAll(t, g, h)
	if got := tellAll(t, g, h); got != want || picture(g, h) != before {
		t.Errorf("the answers share memory with what was handed in, or with earlier ones: %s, want %s", got, want)
	}
}

// TestListsOfOneAnswerShareNothing: each table is a list of its own, and so are the scripts of a game and the answers of a thread.
func TestListsOfOneAnswerShareNothing(t *testing.T) { // P25.9
	g, h := newGame(), newHistory()
	tables, _ := play.Tables(g)
	want := make([][]api.Node, len(tables))
	for k, list := range tables {
		want[k] = slices.Clone(list)
	}
	for k, list := range tables {
		if !slices.Equal(list, want[k]) {
			t.Fatalf("table %d shares memory with one ahead of it", k)
		}
		scribble(list, api.Node{Key: -564})
	}
	first, _ := play.First(g, 9)
	thin, _ := play.Thin(g)
	for _, copied := range []play.Game{first, thin} {
		for thread, script := range copied.Scripts {
			if !slices.Equal(script, g.Scripts[thread]) {
				t.Errorf("script %d shares memory with one ahead of it: %v", thread, script)
			}
			scribble(script, api.Op{Kind: -565})
		}
	}
	answers, _ := play.Answers(h, 3)
	for thread, rets := range answers {
		for i, ret := range rets {
			if ret.Key != 0 || ret.Val < 0 {
				t.Errorf("answer %d of thread %d shares memory with another one: %v", i, thread, ret)
			}
			scribble(ret.Pairs, api.Pair{Key: -566})
		}
		scribble(rets, api.Ret{Val: -567})
	}
}

// TestNothingIsKept: what is handed in may be written to behind the call.
func TestNothingIsKept(t *testing.T) { // P25.9
	g, h := newGame(), newHistory()
	p, _ := play.Run(g)
	first, _ := play.First(g, 200)
	thin, _ := play.Thin(g)
	finished, _, _ := play.Finish(g, 9999)
	solo, _, _ := play.Solo(g, 0, 9999)
	answers, _ := play.Answers(h, 3)
	want := fmt.Sprint(p, first, thin, finished, solo, answers)
	for _, e := range h {
		scribble(e.Ret.Pairs, api.Pair{Key: -568})
	}
	scribble(h, api.Event{})
	overwriteGame(g)
	if got := fmt.Sprint(p, first, thin, finished, solo, answers); got != want {
		t.Errorf("%s, want %s", got, want)
	}
}
