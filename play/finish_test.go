package play_test

import (
	"math"
	"math/rand"
	"slices"
	"testing"

	"larch/api"
	"larch/baton"
	"larch/event"
	"larch/index"
	"larch/judge"
	"larch/play"
	"larch/weigh"
)

// inTurn: so many picks of all threads in turn.
func inTurn(g play.Game, n int) []int {
	picks := make([]int, n)
	for i := range picks {
		picks[i] = i % len(g.Scripts)
	}
	return picks
}

func allEnded(p index.Played) bool { return !slices.Contains(p.Ended, false) }

// wantFinish: what Finish answers, held against Run; the least most with which it ends.
func wantFinish(t *testing.T, g play.Game, most int) int {
	t.Helper()
	p, n, e := play.Finish(g, most)
	if e != api.OK || n < 0 || n > most {
		t.Fatalf("Finish(%v, %d) = %d, %d", g, most, n, e)
	}
	if want := wantRun(t, goOn(g, inTurn(g, n)...)); !samePlayed(p, want) || !allEnded(want) {
		t.Fatalf("Finish(%v, %d): behind %d picks %v, want %v", g, most, n, p, want)
	}
	if q, m, e := play.Finish(g, n); e != api.OK || m != n || !samePlayed(p, q) {
		t.Fatalf("Finish(%v, %d) = %v, %d, %d, want %v", g, n, q, m, e, p)
	}
	if n > 0 {
		if allEnded(wantRun(t, goOn(g, inTurn(g, n-1)...))) {
			t.Fatalf("Finish(%v, %d) took %d picks, and one less is enough", g, most, n)
		}
		if q, m, e := play.Finish(g, n-1); e != api.ErrStop || m != 0 || !isNothing(q) {
			t.Fatalf("Finish(%v, %d) = %v, %d, %d", g, n-1, q, m, e)
		}
	}
	if faults, _ := weigh.Violations(p.Table); faults != 0 {
		t.Fatalf("Finish(%v): the table has %d violations", g, faults)
	}
	if open, _ := event.Pending(p.History); len(open) != 0 || len(p.History) != 2*len(slices.Concat(g.Scripts...)) {
		t.Fatalf("Finish(%v): %v", g, p.History)
	}
	wantTree(t, p.Table, 0)
	return n
}

// enough: the number of P25.6, as far as it is within the limits.
func enough(g play.Game) int {
	n := len(g.Scripts) + len(slices.Concat(g.Scripts...)) + len(g.Start) + 10
	return min(1000*n*n, api.MaxPicks-len(g.Picks))
}

func TestFinishByExample(t *testing.T) { // P25.6
	g := game(nil, threads(ops(put(1, 10)), ops(get(1))))
	p, n, e := play.Finish(g, 100000)
	if e != api.OK || len(p.History) != 4 || n < 1 || !slices.Equal(pairsIn(t, p.Table), pairsOf(1, 10)) {
		t.Fatalf("example 4: %v, %d, %d", p, n, e)
	}
	answers, _ := play.Answers(p.History, 2)
	if got := answers[1][0]; got.Ok != (got.Val == 10) || !got.Ok && got.Val != 0 {
		t.Errorf("example 4: the get answers %v", got)
	}
	wantFinish(t, g, 100000)
}

func TestFinishByChance(t *testing.T) { // P25.6
	r := rand.New(rand.NewSource(8))
	for range 300 {
		g := someGame(r, 6, 5, r.Intn(300))
		wantFinish(t, g, enough(g))
	}
}

// TestFinishOfOneKey: all threads at one key, all of the same step.
func TestFinishOfOneKey(t *testing.T) { // P25.6
	for _, crew := range []int{1, 2, 3, 8, api.MaxThreads} {
		for _, script := range [][]api.Op{ops(put(1, 1), del(1)), ops(del(1), put(1, 2)), ops(ifAbsent(1, 3), everything(), del(1)), ops(everything())} {
			g := game(pairsOf(1, 0), slices.Repeat(threads(script), crew))
			wantFinish(t, g, enough(g))
		}
	}
}

// TestFinishOfLong: of games that need many picks.
func TestFinishOfLong(t *testing.T) { // P25.6
	for _, many := range []int{30, 80, 700} {
		g := game(nil, make([][]api.Op, 3))
		for i := range many {
			thread := i % 2
			g.Scripts[thread] = append(g.Scripts[thread], put(i*7%many, i), del(i*5%many))
		}
		if n := wantFinish(t, g, enough(g)); n < 50*many {
			t.Errorf("%d operations took %d picks: the test sees too little", 2*many, n)
		}
	}
}

func TestFinishThatHasNothingToDo(t *testing.T) { // P25.6
	done := game(nil, threads(ops(put(1, 1)), nil), times(200, 0)...)
	for _, g := range []play.Game{game(nil, threads(nil)), game(pairsOf(1, 1), make([][]api.Op, api.MaxThreads)), game(nil, threads(nil), 0, 5), done} {
		for _, most := range []int{0, 1, 99, api.MaxPicks - len(g.Picks)} {
			p, n, e := play.Finish(g, most)
			if e != api.OK || n != 0 || !samePlayed(p, wantRun(t, g)) {
				t.Errorf("Finish(%v, %d) = %v, %d, %d", g, most, p, n, e)
			}
		}
	}
	for thread := range 3 { // the one that has something to do is picked behind those with lesser numbers
		g := game(nil, make([][]api.Op, 3))
		g.Scripts[thread] = ops(rangeOf(2, 1))
		if n := wantFinish(t, g, 9); n != thread+1 {
			t.Errorf("thread %d alone: %d picks", thread, n)
		}
	}
}

func TestFinishThatIsRefused(t *testing.T) { // P25.6
	g := game(nil, threads(ops(put(1, 1)), nil))
	done := game(nil, threads(nil))
	long := game(nil, threads(ops(put(1, 1))), times(api.MaxPicks-300, 7)...)
	for i, c := range []struct {
		g    play.Game
		most int
		e    api.Errno
	}{
		{g, -1, api.ErrArg}, {g, math.MinInt, api.ErrArg}, {done, -1, api.ErrArg}, {long, -1, api.ErrArg},
		{g, api.MaxPicks + 1, api.ErrBig}, {g, math.MaxInt, api.ErrBig}, {done, api.MaxPicks + 1, api.ErrBig}, {done, math.MaxInt, api.ErrBig},
		{long, 301, api.ErrBig}, {long, api.MaxPicks, api.ErrBig}, {long, math.MaxInt, api.ErrBig}, {goOn(done, 0), api.MaxPicks, api.ErrBig}, {goOn(done, 0), math.MaxInt, api.ErrBig},
		{g, 0, api.ErrStop}, {g, 1, api.ErrStop}, {long, 0, api.ErrStop}, {long, 1, api.ErrStop},
		{g, api.MaxPicks, api.OK}, {done, api.MaxPicks, api.OK}, {long, 300, api.OK}, {goOn(done, 0), api.MaxPicks - 1, api.OK},
	} {
		if p, n, e := play.Finish(c.g, c.most); e != c.e || e != api.OK && (n != 0 || !isNothing(p)) {
			t.Errorf("row %d: Finish(%d) = %d, %d, want %d", i, c.most, n, e, c.e)
		}
	}
}

// wantSolo: what Solo answers, held against Run; the least most with which it ends.
func wantSolo(t *testing.T, g play.Game, thread, most int) int {
	t.Helper()
	before := returnsOf(wantRun(t, g).History, thread)
	p, n, e := play.Solo(g, thread, most)
	if e != api.OK || n < 1 || n > most {
		t.Fatalf("Solo(%v, %d, %d) = %d, %d", g, thread, most, n, e)
	}
	if want := wantRun(t, goOn(g, times(n, thread)...)); !samePlayed(p, want) || returnsOf(want.History, thread) != before+1 {
		t.Fatalf("Solo(%v, %d, %d): behind %d picks %v, want %v", g, thread, most, n, p, want)
	}
	if less := wantRun(t, goOn(g, times(n-1, thread)...)); returnsOf(less.History, thread) != before {
		t.Fatalf("Solo(%v, %d, %d) took %d picks, and one less is enough", g, thread, most, n)
	}
	if q, m, e := play.Solo(g, thread, n); e != api.OK || m != n || !samePlayed(p, q) {
		t.Fatalf("Solo(%v, %d, %d) = %v, %d, %d, want %v", g, thread, n, q, m, e, p)
	}
	if q, m, e := play.Solo(g, thread, n-1); e != api.ErrStop || m != 0 || !isNothing(q) {
		t.Fatalf("Solo(%v, %d, %d) = %v, %d, %d", g, thread, n-1, q, m, e)
	}
	return n
}

// bound: K19's number of what stands behind the game's picks.
func bound(t *testing.T, g play.Game) int {
	t.Helper()
	list := wantRun(t, g).Table
	n, e := judge.Solo(len(g.Scripts), len(list), weightOf(list))
	if e != api.OK {
		t.Fatalf("judge.Solo(%d, %d, %d): %d", len(g.Scripts), len(list), weightOf(list), e)
	}
	return min(n, api.MaxPicks-len(g.Picks))
}

func TestSoloByExample(t *testing.T) { // P25.7
	g := game(nil, threads(ops(put(1, 10)), ops(get(1))))
	p, _, e := play.Solo(g, 1, 1000)
	if e != api.OK || len(p.History) != 2 || !sameEvent(p.History[1], api.Event{Thread: 1, Return: true, Op: get(1)}) {
		t.Errorf("example 4: %v, %d", p, e)
	}
	if _, _, e := play.Solo(g, 2, 5); e != api.ErrArg {
		t.Errorf("example 4: of a thread that isn't there: %d", e)
	}
	if _, _, e := play.Solo(g, 0, 0); e != api.ErrStop {
		t.Errorf("example 4: of no picks: %d", e)
	}
}

// TestSoloByChance: each thread that hasn't ended, whatever stands where.
func TestSoloByChance(t *testing.T) { // P25.7
	r := rand.New(rand.NewSource(9))
	midst := 0
	for range 150 {
		g := someGame(r, 6, 4, r.Intn(400))
		p := wantRun(t, g)
		for thread, ended := range p.Ended {
			if ended {
				if _, _, e := play.Solo(g, thread, 100); e != api.ErrNone {
					t.Errorf("Solo(%v, %d) of one that has ended: %d", g, thread, e)
				}
				continue
			}
			wantSolo(t, g, thread, bound(t, g))
			if open, _ := event.Pending(p.History); len(open) > 1 {
				midst++
			}
		}
	}
	if midst < 100 {
		t.Errorf("%d of them while several stand in the midst: the test sees too little", midst)
	}
}

// TestSoloOfEachPlace: two threads stand at each of their accesses, in the midst of SCXs too, and a third one goes on alone.
func TestSoloOfEachPlace(t *testing.T) { // P25.7
	start := pairsOf(2, 2, 1, 1, 3, 3, 4, 4)
	helped := 0
	for i, a := range ops(put(5, 7), put(2, 7), del(1), del(4)) {
		for j, b := range ops(put(6, 8), del(2), del(3)) {
			for _, c := range ops(everything(), put(2, 9), del(4), ifAbsent(7, 9)) {
				alone := wantSolo(t, game(start, threads(nil, nil, ops(c))), 2, 1000)
				for n := i; n < 45; n += 4 {
					for m := j; m < 45; m += 9 {
						g := game(start, threads(ops(a), ops(b), ops(c)), slices.Concat(times(n, 0), times(m, 1))...)
						_, many, e := play.Solo(g, 2, bound(t, g))
						if e != api.OK {
							t.Fatalf("Solo(%v, 2): %d", g, e)
						}
						if many > alone {
							helped++
						}
					}
				}
			}
		}
	}
	if helped < 100 {
		t.Errorf("%d needed more picks than on the start alone: the test sees too little", helped)
	}
}

// TestSoloFromTheMidst: of a thread that stands at each of its own accesses, and has operations behind that one, or none.
func TestSoloFromTheMidst(t *testing.T) { // P25.7
	for _, script := range [][]api.Op{ops(put(1, 1), rangeOf(2, 1), del(1), everything()), ops(rangeOf(2, 1), rangeOf(2, 1), put(2, 2))} {
		g := game(pairsOf(2, 2, 3, 3), threads(nil, script, ops(del(3))), times(20, 2)...)
		for n := 0; ; n++ {
			from := goOn(g, times(n, 1)...)
			if wantRun(t, from).Ended[1] {
				break
			}
			wantSolo(t, from, 1, bound(t, from))
		}
	}
}

// TestSoloOfMany: 64 threads that all stand in the midst of an update; and long reads.
func TestSoloOfMany(t *testing.T) { // P25.7
	g := game(nil, make([][]api.Op, api.MaxThreads))
	for i := range 300 {
		g.Start = append(g.Start, api.Pair{Key: 7 * i % 301, Val: i})
	}
	for thread := range g.Scripts {
		key := thread % 4 // so that many are in one another's way
		g.Scripts[thread] = ops(put(5*key, thread), del(3*key), everything(), put(1000+thread, 1))
	}
	for _, rounds := range []int{1, 10, 20, 30, 37, 45} {
		from := g
		from.Picks, _ = baton.Robin(api.MaxThreads, rounds)
		for _, thread := range []int{0, 21, 42, 63} {
			wantSolo(t, from, thread, bound(t, from))
		}
	}
	whole := game(make([]api.Pair, api.MaxOps), threads(ops(everything())))
	for i := range whole.Start {
		whole.Start[i].Key = i
	}
	if n := wantSolo(t, whole, 0, bound(t, whole)); n < 5000 {
		t.Errorf("a Range of all took %d picks: the test sees too little", n)
	}
}

func TestSoloThatIsRefused(t *testing.T) { // P25.7
	g := game(nil, threads(ops(put(1, 1)), nil))
	done := goOn(g, times(200, 0)...)
	long := game(nil, threads(ops(put(1, 1)), nil), times(api.MaxPicks-300, 7)...)
	for i, c := range []struct {
		g            play.Game
		thread, most int
		e            api.Errno
	}{
		{g, 2, 5, api.ErrArg}, {g, -1, 5, api.ErrArg}, {g, math.MinInt, 5, api.ErrArg}, {g, math.MaxInt, 5, api.ErrArg},
		{g, 0, -1, api.ErrArg}, {g, 0, math.MinInt, api.ErrArg}, {g, 1, -1, api.ErrArg}, {done, 0, -1, api.ErrArg},
		{g, 2, api.MaxPicks + 1, api.ErrArg}, {g, 2, -1, api.ErrArg}, {long, -1, 301, api.ErrArg},
		{g, 1, 5, api.ErrNone}, {g, 1, 0, api.ErrNone}, {done, 0, 5, api.ErrNone}, {done, 0, 0, api.ErrNone}, {done, 1, 5, api.ErrNone},
		{g, 1, api.MaxPicks + 1, api.ErrNone}, {g, 1, math.MaxInt, api.ErrNone}, {done, 0, api.MaxPicks, api.ErrNone}, {long, 1, 301, api.ErrNone},
		{g, 0, api.MaxPicks + 1, api.ErrBig}, {g, 0, math.MaxInt, api.ErrBig}, {long, 0, 301, api.ErrBig}, {long, 0, math.MaxInt, api.ErrBig}, {goOn(g, 1), 0, api.MaxPicks, api.ErrBig}, {goOn(g, 1), 0, math.MaxInt, api.ErrBig},
		{g, 0, 0, api.ErrStop}, {g, 0, 1, api.ErrStop}, {long, 0, 0, api.ErrStop}, {long, 0, 1, api.ErrStop},
		{g, 0, api.MaxPicks, api.OK}, {long, 0, 300, api.OK},
	} {
		if p, n, e := play.Solo(c.g, c.thread, c.most); e != c.e || e != api.OK && (n != 0 || !isNothing(p)) {
			t.Errorf("row %d: Solo(%d, %d) = %d, %d, want %d", i, c.thread, c.most, n, e, c.e)
		}
	}
}
