package shell_test

import (
	"fmt"
	"math/rand"
	"slices"
	"testing"

	"larch/api"
	"larch/play"
	"larch/shell"
)

// roomy: a list with spare room behind it.
func roomy[T any](spare T, list ...T) []T {
	room := append(slices.Clone(list), spare, spare, spare)
	return room[:len(list):len(room)]
}

// scribble writes all over a list, spare room included.
func scribble[T any](list []T, with T) {
	for i := range list[:cap(list)] {
		list[:cap(list)][i] = with
	}
}

// newGame: all with spare room.
func newGame() play.Game {
	odd := api.Op{Kind: 99, Key: 98}
	mine := func(list ...api.Op) []api.Op { return roomy(odd, list...) }
	return play.Game{
		Start:   roomy(api.Pair{Key: -77, Val: -78}, api.Pair{Key: 3, Val: 30}, api.Pair{Key: 1, Val: 10}),
		Scripts: roomy(mine(odd), mine(api.Op{Kind: api.Put, Key: 1, Val: 2, Hi: 3}, api.Op{Kind: api.Min, Key: 4}), mine(), mine(api.Op{Kind: api.Range, Key: 1, Val: 6, Hi: 7})),
		Picks:   roomy(-79, 0, 0, 1, 2, 2, 2),
	}
}

// pictureOf: all of it, spare room included.
func pictureOf(g play.Game) string {
	text := fmt.Sprint(g.Start[:cap(g.Start)], g.Picks[:cap(g.Picks)])
	for _, script := range g.Scripts[:cap(g.Scripts)] {
		text += fmt.Sprint(len(script), script[:cap(script)])
	}
	return text
}

func TestNothingHandedInIsChanged(t *testing.T) { // P28.2, P28.3, P28.6
	g := newGame()
	bad := g
	bad.Scripts = g.Scripts[:cap(g.Scripts)]
	before := pictureOf(g)
	if text, e := shell.Print(g); e != api.OK || text != naivePrint(g) || pictureOf(g) != before {
		t.Errorf("Print = %q, %d; handed in: %s, was %s", text, e, pictureOf(g), before)
	}
	if _, e := shell.Print(bad); e != api.ErrKind || pictureOf(g) != before {
		t.Errorf("Print that is refused: %d; handed in: %s, was %s", e, pictureOf(g), before)
	}
	pairs := roomy(api.Pair{Key: -80}, api.Pair{Key: 1, Val: 2}, api.Pair{Key: 3, Val: 4})
	shell.Tell(api.Event{Return: true, Op: api.Op{Kind: api.Range}, Ret: api.Ret{Pairs: pairs}})
	if want := []api.Pair{{Key: 1, Val: 2}, {Key: 3, Val: 4}, {Key: -80}, {Key: -80}, {Key: -80}}; !slices.Equal(pairs[:5], want) {
		t.Errorf("Tell has changed %v", pairs[:5])
	}
	texts := roomy("spare", "x", "thread", "")
	shell.Batch(texts, 3)
	if !slices.Equal(texts[:6], []string{"x", "thread", "", "spare", "spare", "spare"}) {
		t.Errorf("Batch has changed %q", texts[:6])
	}
}

// TestAnswersAreNewMemory: writing all over an answer changes neither what was handed in nor other answers, nor do two lists of one answer share any.
func TestAnswersAreNewMemory(t *testing.T) { // P28.2, P28.6
	text := naivePrint(someGame(rand.New(rand.NewSource(12)), 6, 6, 90)) + "pick 0 3\n"
	want, _, _ := naiveParse(text)
	for range 3 {
		g, _, e := shell.Parse(text)
		if e != api.OK || !sameGame(g, want) {
			t.Fatalf("Parse(%q) = %v, %d", text, g, e)
		}
		for thread, script := range g.Scripts {
			if !slices.Equal(script, want.Scripts[thread]) {
				t.Errorf("script %d shares memory with one ahead of it: %v", thread, script)
			}
			scribble(script, api.Op{Kind: -561})
		}
		scribble(g.Start, api.Pair{Key: -562})
		scribble(g.Picks, -563)
		scribble(g.Scripts, nil)
	}
	texts := roomy("spare", "x", "thread", "")
	for range 3 {
		replies := shell.Batch(texts, 3)
		if !slices.Equal(replies, []string{"line 1 text\n", "t0 ended\n", "refused 1\n"}) {
			t.Errorf("Batch = %q", replies)
		}
		scribble(replies, "over")
	}
	if !slices.Equal(texts[:6], []string{"x", "thread", "", "spare", "spare", "spare"}) {
		t.Errorf("the replies share memory with the texts: %q", texts[:6])
	}
}
