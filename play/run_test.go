package play_test

import (
	"fmt"
	"math"
	"math/rand"
	"slices"
	"testing"

	"larch/api"
	"larch/index"
	"larch/play"
	"larch/table"
)

func TestRunByExamples(t *testing.T) { // P25.1
	g := game(nil, threads(ops(put(1, 10))))
	p := wantRun(t, g)
	if len(p.Steps)+len(p.History) != 0 || !slices.Equal(p.Ended, []bool{false}) || !slices.Equal(p.Table, table.Empty()) {
		t.Errorf("example 1: no picks: %v", p)
	}
	p = wantRun(t, goOn(g, 0))
	if !slices.Equal(p.Steps, []api.Step{{Worker: 0, Kind: api.Start}}) || !sameHistory(p.History, []api.Event{{Thread: 0, Op: put(1, 10)}}) {
		t.Errorf("example 1: one pick: %v", p)
	}
	idle := goOn(g, 5, -1, 1)
	p = wantRun(t, idle)
	if want := []api.Step{{Worker: 5, Kind: -1}, {Worker: -1, Kind: -1}, {Worker: 1, Kind: -1}}; !slices.Equal(p.Steps, want) {
		t.Errorf("example 2: %v", p)
	}
	if thin, e := play.Thin(idle); e != api.OK || !sameGame(thin, g) {
		t.Errorf("example 2: Thin = %v, %d", thin, e)
	}
}

// TestRunIsThePlayOfTheIndex: and the same again, as often as it is played.
func TestRunIsThePlayOfTheIndex(t *testing.T) { // P25.1
	r := rand.New(rand.NewSource(1))
	for range 200 {
		g := someGame(r, 5, 5, r.Intn(600))
		want, _ := index.Play(g.Start, g.Scripts, g.Picks)
		for range 3 {
			if p := wantRun(t, g); !samePlayed(p, want) {
				t.Fatalf("Run(%v) = %v, want %v", g, p, want)
			}
		}
		if e := play.Check(g); e != api.OK {
			t.Fatalf("Check(%v) = %d", g, e)
		}
	}
}

func TestCheckAtTheLimits(t *testing.T) { // P25.1
	full := slices.Repeat(ops(rangeOf(2, 1)), api.MaxOps)
	for name, g := range map[string]play.Game{
		"one thread without operations": game(nil, threads(nil)),
		"64 threads":                    game(nil, make([][]api.Op, api.MaxThreads), 0, 63, 64),
		"1000 pairs":                    game(make([]api.Pair, api.MaxOps), threads(nil)),
		"1000 operations":               game(nil, threads(nil, full), times(api.MaxOps, 1)...),
		"1000000 picks":                 game(nil, threads(full), make([]int, api.MaxPicks)...),
		"picks of nobody":               game(nil, threads(full), math.MinInt, math.MaxInt, -1, 1),
	} {
		if e := play.Check(g); e != api.OK {
			t.Errorf("%s: Check = %d", name, e)
		}
		wantRun(t, g)
	}
	for kind := api.Get; kind <= api.Range; kind++ {
		if e := play.Check(game(nil, threads(nil, ops(api.Op{Kind: kind})))); e != api.OK {
			t.Errorf("kind %d: Check = %d", kind, e)
		}
	}
}

// TestGamesThatAreRefused: Check's error counts ahead of all others in every call that is handed a game.
func TestGamesThatAreRefused(t *testing.T) { // P25.1, P25.4, P25.5, P25.6, P25.7
	for _, c := range refusals() {
		if e := play.Check(c.g); e != c.e {
			t.Errorf("%s: Check = %d, want %d", c.name, e, c.e)
		}
		if _, e := index.Play(c.g.Start, c.g.Scripts, c.g.Picks); e != c.e {
			t.Errorf("%s: index.Play = %d, want %d", c.name, e, c.e)
		}
		if p, e := play.Run(c.g); e != c.e || !isNothing(p) {
			t.Errorf("%s: Run = %v, %d, want %d", c.name, p, e, c.e)
		}
		for _, n := range []int{-1, 0, 1, math.MaxInt} {
			if g, e := play.First(c.g, n); e != c.e || !isNoGame(g) {
				t.Errorf("%s: First(%d) = %v, %d, want %d", c.name, n, g, e, c.e)
			}
		}
		if g, e := play.Thin(c.g); e != c.e || !isNoGame(g) {
			t.Errorf("%s: Thin = %v, %d, want %d", c.name, g, e, c.e)
		}
		if tables, e := play.Tables(c.g); e != c.e || len(tables) != 0 {
			t.Errorf("%s: Tables = %v, %d, want %d", c.name, tables, e, c.e)
		}
		if changes, e := play.Changes(c.g); e != c.e || len(changes) != 0 {
			t.Errorf("%s: Changes = %v, %d, want %d", c.name, changes, e, c.e)
		}
		for _, most := range []int{-1, 0, 9, api.MaxPicks + 1} {
			if p, n, e := play.Finish(c.g, most); e != c.e || n != 0 || !isNothing(p) {
				t.Errorf("%s: Finish(%d) = %v, %d, %d, want %d", c.name, most, p, n, e, c.e)
			}
			for _, thread := range []int{-1, 0, 1, 65} {
				if p, n, e := play.Solo(c.g, thread, most); e != c.e || n != 0 || !isNothing(p) {
					t.Errorf("%s: Solo(%d, %d) = %v, %d, %d, want %d", c.name, thread, most, p, n, e, c.e)
				}
			}
		}
	}
}

func TestFirst(t *testing.T) { // P25.1
	g := game(pairsOf(3, 30, 1, 10), threads(ops(put(1, 11)), nil), 0, 7, 1, 0, -1)
	for n := -3; n <= 8; n++ {
		want := g
		want.Picks = g.Picks[:max(0, min(n, 5))]
		if first := wantFirst(t, g, n); !sameGame(first, want) {
			t.Errorf("First(%d) = %v, want %v", n, first, want)
		}
	}
	for _, c := range []struct{ n, picks int }{{math.MinInt, 0}, {math.MaxInt, 5}} {
		if first := wantFirst(t, g, c.n); len(first.Picks) != c.picks {
			t.Errorf("First(%d) = %v", c.n, first)
		}
	}
	if first := wantFirst(t, game(nil, threads(nil)), 3); len(first.Picks) != 0 || len(first.Scripts) != 1 {
		t.Errorf("First of no picks = %v", first)
	}
}

// TestBeginnings: at every length of the picks, those that end in the midst of an operation too.
func TestBeginnings(t *testing.T) { // P25.2
	r := rand.New(rand.NewSource(2))
	midst := 0
	for range 20 {
		g := someGame(r, 4, 4, 250)
		whole := wantRun(t, g)
		for n := range len(g.Picks) + 1 {
			p := wantRun(t, wantFirst(t, g, n))
			if !slices.Equal(p.Steps, whole.Steps[:n]) || !isBeginning(p.History, whole.History) {
				t.Fatalf("the first %d picks of %v: %v, want a beginning of %v", n, g, p, whole)
			}
			if len(p.History)%2 == 1 {
				midst++
			}
		}
	}
	if midst < 500 {
		t.Errorf("%d beginnings in the midst of an operation: the test sees too little", midst)
	}
}

func TestThin(t *testing.T) { // P25.1, P25.3
	r := rand.New(rand.NewSource(3))
	idle := 0
	for range 300 {
		g := someGame(r, 4, 4, 400)
		p := wantRun(t, g)
		want := g
		want.Picks = nil
		var steps []api.Step
		for i, s := range p.Steps {
			if s.Kind != -1 {
				want.Picks, steps = append(want.Picks, g.Picks[i]), append(steps, s)
			}
		}
		thin, e := play.Thin(g)
		if e != api.OK || !sameGame(thin, want) {
			t.Fatalf("Thin(%v) = %v, %d, want %v", g, thin, e, want)
		}
		q := wantRun(t, thin)
		if !slices.Equal(q.Steps, steps) || !sameHistory(q.History, p.History) || !slices.Equal(q.Table, p.Table) || !slices.Equal(q.Ended, p.Ended) {
			t.Fatalf("Run of Thin(%v) = %v, want %v", g, q, p)
		}
		if again, _ := play.Thin(thin); !sameGame(again, thin) {
			t.Fatalf("Thin of %v = %v", thin, again)
		}
		idle += len(g.Picks) - len(thin.Picks)
	}
	if idle < 5000 {
		t.Errorf("%d picks that do nothing: the test sees too little", idle)
	}
}

// TestThinOfThreadsThatHaveEnded: their picks do nothing, as those of threads that aren't there.
func TestThinOfThreadsThatHaveEnded(t *testing.T) { // P25.3
	g := game(nil, threads(nil, ops(rangeOf(2, 1), rangeOf(3, 1))), 0, 1, 2, 1, 1, 0, math.MaxInt, math.MinInt)
	thin, e := play.Thin(g)
	if e != api.OK || !slices.Equal(thin.Picks, []int{1, 1}) {
		t.Errorf("Thin = %v, %d", thin, e)
	}
}

// TestOneThread: picks enough, and just as many as are needed.
func TestOneThread(t *testing.T) { // P25.8
	r := rand.New(rand.NewSource(4))
	for range 300 {
		start, script := somePairs(r, 14), someOps(r, r.Intn(25))
		wantAlone(t, start, script, 10000)
	}
	for _, keys := range []int{1, 20, 5000} {
		start, script := make([]api.Pair, api.MaxOps), make([]api.Op, api.MaxOps)
		for i := range start {
			start[i] = api.Pair{Key: r.Intn(keys), Val: i}
			script[i] = api.Op{Kind: 1 + r.Intn(8), Key: r.Intn(keys), Val: i}
		}
		wantAlone(t, start, script, 500000)
	}
}

// wantAlone: P25.8.
func wantAlone(t *testing.T, start []api.Pair, script []api.Op, enough int) {
	t.Helper()
	g := game(start, threads(script), times(enough, 0)...)
	want, left := modelled(start, script)
	list := grown(t, start, script)
	finished, n, e := play.Finish(game(start, threads(script)), enough)
	if e != api.OK || n > enough {
		t.Fatalf("Finish: %d, %d", n, e)
	}
	for _, p := range []index.Played{wantRun(t, g), wantRun(t, wantFirst(t, g, n)), finished} {
		answers, e := play.Answers(p.History, 1)
		if e != api.OK || !p.Ended[0] || !sameRets(answers[0], want) || !slices.Equal(p.Table, list) || !slices.Equal(pairsIn(t, p.Table), left) {
			t.Fatalf("from %v, of %v: %v, %d; %v, want %v, %v", start, script, answers, e, p.Table, want, list)
		}
	}
}

// TestPlaysHaveNothingInCommon: other games between don't change one.
func TestPlaysHaveNothingInCommon(t *testing.T) { // P25.1
	r := rand.New(rand.NewSource(5))
	g := someGame(r, 4, 4, 300)
	want := fmt.Sprint(wantRun(t, g))
	for range 50 {
		wantRun(t, someGame(r, 4, 4, 300))
		if got := fmt.Sprint(wantRun(t, g)); got != want {
			t.Fatalf("Run(%v) = %s, want %s", g, got, want)
		}
	}
}
