package judge_test

import (
	"math/rand"
	"slices"
	"testing"

	"larch/api"
	"larch/baton"
	"larch/judge"
	"larch/play"
)

func allTrue() judge.Verdict {
	return judge.Verdict{Trees: true, Debts: true, Heights: true, Single: true, Tally: true, Sources: true, Shapes: true}
}

func wantVerdict(t *testing.T, g play.Game) {
	t.Helper()
	if v, e := judge.Game(g); v != allTrue() || e != api.OK {
		t.Fatalf("Game(%v) = %v, %d", g, v, e)
	}
}

func TestGameByExample(t *testing.T) { // P26.4
	wantVerdict(t, play.Game{Scripts: threads(ops(put(1, 10))), Picks: []int{0, 0, 0}})
}

func TestGameByChance(t *testing.T) { // P26.4
	r := rand.New(rand.NewSource(14))
	for range 300 {
		wantVerdict(t, someGame(r, 6, 6, r.Intn(900)))
	}
}

func TestGameAtTheEdges(t *testing.T) { // P26.4
	wantVerdict(t, play.Game{Scripts: threads(nil)})
	wantVerdict(t, play.Game{Start: pairsOf(1, 1, 1, 2), Scripts: threads(nil, nil), Picks: []int{0, 7, -1}})
	wantVerdict(t, play.Game{Scripts: make([][]api.Op, api.MaxThreads), Picks: []int{63, 64}})
	wantVerdict(t, play.Game{Scripts: threads(ops(rangeOf(2, 1), rangeOf(2, 1))), Picks: []int{0, 0, 0}})
}

// TestGameOfMany: as many threads, picks and pairs as there may be.
func TestGameOfMany(t *testing.T) { // P26.4
	g := play.Game{Start: make([]api.Pair, api.MaxOps), Scripts: make([][]api.Op, api.MaxThreads)}
	for i := range g.Start {
		g.Start[i] = api.Pair{Key: 7 * i % 2003, Val: i}
	}
	for thread := range g.Scripts {
		g.Scripts[thread] = slices.Repeat(ops(put(thread, 1), del(7*thread%5), ifAbsent(3, thread), rangeOf(0, 9), least()), api.MaxOps/5)
	}
	for _, start := range [][]api.Pair{nil, g.Start} {
		for _, crew := range []int{1, 3, api.MaxThreads} {
			some := play.Game{Start: start, Scripts: g.Scripts[:crew]}
			some.Picks, _ = baton.Robin(crew, play.MaxWalk)
			some.Picks = some.Picks[:play.MaxWalk]
			wantVerdict(t, some)
		}
	}
}

// TestGameThatIsRefused: the errors of play.Tables alone.
func TestGameThatIsRefused(t *testing.T) { // P26.4
	script := threads(ops(put(1, 1)))
	for i, c := range []struct {
		g play.Game
		e api.Errno
	}{
		{play.Game{}, api.ErrArg}, {play.Game{Scripts: make([][]api.Op, api.MaxThreads+1)}, api.ErrArg}, {play.Game{Scripts: threads(ops(api.Op{Kind: 10}))}, api.ErrKind}, {play.Game{Scripts: threads(ops(api.Op{}))}, api.ErrKind},
		{play.Game{Scripts: script, Picks: make([]int, play.MaxWalk+1)}, api.ErrBig}, {play.Game{Scripts: script, Picks: make([]int, api.MaxPicks+1)}, api.ErrBig}, {play.Game{Scripts: script, Start: make([]api.Pair, api.MaxOps+1)}, api.ErrBig},
		{play.Game{Scripts: threads(make([]api.Op, api.MaxOps+1))}, api.ErrKind}, {play.Game{Scripts: threads(slices.Repeat(ops(least()), api.MaxOps+1))}, api.ErrBig}, {play.Game{Picks: make([]int, play.MaxWalk+1)}, api.ErrArg},
		{play.Game{Scripts: script, Picks: make([]int, play.MaxWalk)}, api.OK},
	} {
		v, e := judge.Game(c.g)
		if _, want := play.Tables(c.g); e != c.e || e != want || e != api.OK && v != (judge.Verdict{}) {
			t.Errorf("row %d: Game = %v, %d, want %d", i, v, e, c.e)
		}
	}
}

// TestAloneWithin: K19: each thread that hasn't ended, from behind any picks, returns within so many of its own.
func TestAloneWithin(t *testing.T) { // P26.5
	r := rand.New(rand.NewSource(15))
	most := 0
	for range 150 {
		g := someGame(r, 8, 4, r.Intn(700))
		p, _ := play.Run(g)
		weight := 0
		for _, n := range p.Table {
			weight += n.Weight
		}
		bound, e := judge.Solo(len(g.Scripts), len(p.Table), weight)
		if e != api.OK {
			t.Fatalf("Solo: %d", e)
		}
		for thread, ended := range p.Ended {
			if ended {
				continue
			}
			_, n, e := play.Solo(g, thread, min(bound, api.MaxPicks-len(g.Picks)))
			if e != api.OK || n > bound {
				t.Fatalf("%v: thread %d took %d picks of %d, %d", g, thread, n, bound, e)
			}
			most = max(most, n)
		}
	}
	if most < 100 {
		t.Errorf("at most %d picks: the test sees too little", most)
	}
}
