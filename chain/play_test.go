package chain_test

import (
	"math"
	"math/rand"
	"slices"
	"testing"

	"larch/api"
	"larch/chain"
	"larch/model"
)

// kindsFrom: the kinds of a worker's steps, from one on.
func kindsFrom(steps []api.Step, from, worker int) []int {
	var list []int
	for _, s := range steps[from:] {
		if s.Worker == worker && s.Kind != -1 {
			list = append(list, s.Kind)
		}
	}
	return list
}

func TestPlayByExamples(t *testing.T) { // P15.2
	both := workers(ops(put(1, 1)), ops(put(1, 2)))
	linked := slices.Concat(times(8, 0), times(8, 1)) // Start, the walk, the link of the head
	p, m := wantPlay(t, nil, both, slices.Concat(linked, times(4, 0), times(40, 1)))
	history := []api.Event{{Thread: 0, Op: put(1, 1)}, {Thread: 1, Op: put(1, 2)}, {Thread: 0, Return: true, Op: put(1, 1)}, {Thread: 1, Return: true, Op: put(1, 2), Ret: api.Ret{Ok: true, Val: 1}}}
	if !slices.EqualFunc(p.History, history, sameEvent) || !slices.Equal(p.Left, chainOf(1, 2)) || m.fails != 1 {
		t.Errorf("example 5: %v", p)
	}
	want := slices.Concat([]int{api.Cas, api.Load, api.Load, api.Store}, kindsOf(chainOf(1, 1), put(1, 2)))
	if got := kindsFrom(p.Steps, 20, 1); !slices.Equal(got, want) {
		t.Errorf("example 5: worker 1 does %v, want %v", got, want)
	}
	if p, e := chain.Play(chainOf(2, 2, 1, 1), both, nil); e != api.ErrOrder || !isNothing(p) {
		t.Errorf("example 6: %v, %d", p, e)
	}
	if p, e := chain.Play(nil, nil, nil); e != api.ErrArg || !isNothing(p) {
		t.Errorf("example 6: %v, %d", p, e)
	}
}

// TestPlayOfEachPlace: one worker goes on up to each of its places, the other one up to each of its own, and on from there: all kinds, on one key and on neighbours.
func TestPlayOfEachPlace(t *testing.T) { // P15.2
	pairs := chainOf(1, 10, 2, 20)
	mine := ops(get(2), put(1, 7), put(2, 7), put(3, 7), ifAbsent(0, 7), ifAbsent(2, 7), del(1), del(2), between(0, 1), between(2, 9))
	others := ops(put(1, 8), put(2, 8), put(3, 8), ifAbsent(0, 8), del(1), del(2), between(0, 9))
	fails, helps := 0, 0
	for _, a := range mine {
		for _, b := range others {
			for i := range 1 + len(kindsOf(pairs, a)) {
				for j := range 1 + len(kindsOf(pairs, b)) {
					picks := slices.Concat(times(i+1, 0), times(j+1, 1), times(90, i%2), times(90, 1-i%2))
					p, m := wantPlay(t, pairs, workers(ops(a), ops(b)), picks)
					if slices.Contains(p.Ended, false) {
						t.Fatalf("Play(%v, (%v, %v), %v): who ended: %v", pairs, a, b, picks, p.Ended)
					}
					fails, helps = fails+m.fails, helps+m.helps
				}
			}
		}
	}
	if fails < 5000 || helps < 2000 {
		t.Errorf("%d began anew, %d helped: the test sees too little", fails, helps)
	}
}

// TestPlayOfAllPicks: every list of so many picks, from where two workers, or three, are near their SCX.
func TestPlayOfAllPicks(t *testing.T) { // P15.2
	pairs := chainOf(1, 10, 2, 20)
	for _, c := range []struct {
		a, b api.Op
	}{
		{put(1, 7), put(1, 8)}, {put(2, 7), del(1)}, {del(1), del(2)}, {del(2), put(3, 8)}, {ifAbsent(3, 7), ifAbsent(3, 8)}, {between(0, 9), put(2, 8)}, {get(2), del(2)},
	} {
		ahead := slices.Concat(times(max(1, len(kindsOf(pairs, c.a))-5), 0), times(len(kindsOf(pairs, c.b))-5, 1))
		eachList(2, 10, func(picks []int) {
			wantPlay(t, pairs, workers(ops(c.a), ops(c.b)), slices.Concat(ahead, picks))
		})
	}
	linked := slices.Concat(times(8, 0), times(8, 1), times(8, 2))
	eachList(3, 7, func(picks []int) {
		wantPlay(t, nil, workers(ops(put(1, 1)), ops(ifAbsent(1, 2)), ops(put(0, 3))), slices.Concat(linked, picks))
	})
}

func TestPlayByChance(t *testing.T) { // P15.2
	r := rand.New(rand.NewSource(3))
	fails, helps, cut := 0, 0, 0
	for range 3000 {
		scripts := someScripts(r, 1+r.Intn(6), 8)
		p, m := wantPlay(t, somePairs(r, 5), scripts, somePicks(r, len(scripts), 600))
		fails, helps = fails+m.fails, helps+m.helps
		if slices.Contains(p.Ended, false) {
			cut++
		}
	}
	if fails < 3000 || helps < 1000 || cut < 1000 {
		t.Errorf("%d began anew, %d helped, %d games were cut: the test sees too little", fails, helps, cut)
	}
}

// TestPlayGoesOn: a game of the beginning of the picks is the beginning of the game.
func TestPlayGoesOn(t *testing.T) { // P15.2
	r := rand.New(rand.NewSource(4))
	for range 10 {
		scripts, pairs := someScripts(r, 3, 4), somePairs(r, 4)
		picks := somePicks(r, 3, 150)
		whole, _ := wantPlay(t, pairs, scripts, picks)
		for n := range picks {
			part, _ := wantPlay(t, pairs, scripts, picks[:n])
			if !slices.Equal(part.Steps, whole.Steps[:n]) || !slices.EqualFunc(part.History, whole.History[:len(part.History)], sameEvent) {
				t.Fatalf("Play(%v, %v, %v): the first %d picks give %v", pairs, scripts, picks, n, part)
			}
		}
	}
}

// TestPlayIsCut: a Put that is pending when the picks end has done its deed from its Swing on.
func TestPlayIsCut(t *testing.T) { // P15.2
	for _, c := range []struct {
		picks, events int
		left          []api.Pair
	}{
		{0, 0, nil}, {1, 1, nil}, {8, 1, nil}, {10, 1, nil}, {11, 1, chainOf(1, 9)}, {12, 2, chainOf(1, 9)},
	} {
		p, _ := wantPlay(t, nil, workers(ops(put(1, 9))), times(c.picks, 0))
		if !slices.Equal(p.Left, c.left) || p.Ended[0] != (c.events == 2) || len(p.History) != c.events {
			t.Errorf("behind %d picks: %v", c.picks, p)
		}
	}
}

// TestFrozenIsHelped: worker 0 stands behind its Freeze; whoever links the head brings its Put to its end first, and finds that its own link doesn't fit.
func TestFrozenIsHelped(t *testing.T) { // P15.2
	p, m := wantPlay(t, nil, workers(ops(put(1, 1)), ops(put(2, 2))), slices.Concat(times(9, 0), times(60, 1)))
	if !slices.Equal(p.Left, chainOf(1, 1, 2, 2)) || p.Ended[0] || !p.Ended[1] || len(p.History) != 3 || m.helps != 1 || m.fails != 1 {
		t.Errorf("%v", p)
	}
	p, m = wantPlay(t, nil, workers(ops(put(1, 1)), ops(between(0, 9))), slices.Concat(times(9, 0), times(60, 1)))
	if last := p.History[2]; m.helps != 1 || !last.Return || !slices.Equal(last.Ret.Pairs, chainOf(1, 1)) {
		t.Errorf("%v", p)
	}
}

func TestPlayOfLittle(t *testing.T) { // P15.2
	wantPlay(t, nil, workers(nil), nil)
	wantPlay(t, nil, workers(ops(), nil, nil), []int{0, 1, 2, 3, -1})
	p, _ := wantPlay(t, chainOf(3, 30), workers(nil, ops(), ops(get(3))), []int{0, 1, 2, 2, 2, 2, 3, -1, math.MaxInt, math.MinInt})
	if slices.Contains(p.Ended, false) || len(p.History) != 2 {
		t.Errorf("%v", p)
	}
	wantPlay(t, nil, workers(ops(put(1, 1))), nil)
	p, _ = wantPlay(t, chainOf(1, 1), workers(ops(between(2, 1), between(math.MaxInt, math.MinInt))), []int{0, 0, 0})
	steps := []api.Step{{Worker: 0, Kind: api.Start}, {Worker: 0, Kind: api.Start, Ended: true}, {Worker: 0, Kind: -1}}
	if !slices.Equal(p.Steps, steps) || len(p.History) != 4 || !model.SameRet(p.History[1].Ret, api.Ret{Ok: true}) {
		t.Errorf("ranges without an access: %v", p)
	}
}

func TestPlayAtTheLimits(t *testing.T) { // P15.2
	crew := make([][]api.Op, api.MaxThreads)
	crew[0], crew[63] = make([]api.Op, api.MaxOps), make([]api.Op, api.MaxOps)
	for i := range api.MaxOps {
		crew[0][i], crew[63][i] = put(i%5, i), del(i%5)
	}
	var picks []int
	for i := range 80000 {
		picks = append(picks, 63*(i/7%2))
	}
	p, _ := wantPlay(t, longMap(api.MaxOps), crew, picks)
	if slices.Contains(p.Ended, false) {
		t.Errorf("who ended: %v", p.Ended)
	}
	many, e := chain.Play(chainOf(1, 1), workers(ops(get(1))), make([]int, api.MaxPicks))
	if e != api.OK || len(many.Steps) != api.MaxPicks || !many.Steps[1].Ended || many.Steps[api.MaxPicks-1] != (api.Step{Kind: -1}) {
		t.Errorf("as many picks as there may be: %d steps, %d", len(many.Steps), e)
	}
}

func TestPlayThatIsRefused(t *testing.T) { // P15.2
	long, odd := make([]api.Pair, api.MaxOps+1), chainOf(2, 2, 1, 1)
	bad := ops(api.Op{Kind: 99})
	longScript, manyPicks := slices.Repeat(ops(get(1)), api.MaxOps+1), make([]int, api.MaxPicks+1)
	for _, c := range []struct {
		name    string
		pairs   []api.Pair
		scripts [][]api.Op
		picks   []int
		e       api.Errno
	}{
		{"no script", nil, nil, nil, api.ErrArg},
		{"no script, and all else wrong", long, workers(), manyPicks, api.ErrArg},
		{"65 scripts", nil, make([][]api.Op, api.MaxThreads+1), nil, api.ErrArg},
		{"65 scripts, and all else wrong", long, append(make([][]api.Op, api.MaxThreads), bad), manyPicks, api.ErrArg},
		{"many pairs that are a map", longMap(api.MaxOps + 1), workers(nil), nil, api.ErrBig},
		{"many pairs that are no map, and no kind", long, workers(bad), nil, api.ErrBig},
		{"a long script", nil, workers(nil, longScript), nil, api.ErrBig},
		{"a long script behind no kind, on no map", odd, workers(bad, longScript), nil, api.ErrBig},
		{"a long script of no kind", nil, workers(make([]api.Op, api.MaxOps+1)), nil, api.ErrBig},
		{"many picks", nil, workers(nil), manyPicks, api.ErrBig},
		{"many picks, no map, no kind", odd, workers(bad), manyPicks, api.ErrBig},
		{"no map", odd, workers(nil), nil, api.ErrOrder},
		{"a key twice", chainOf(1, 1, 1, 2), workers(ops(get(1))), []int{0, 0}, api.ErrOrder},
		{"no map, and no kind", odd, workers(bad), nil, api.ErrOrder},
		{"the last one of no kind", chainOf(1, 1), workers(ops(get(1)), append(ops(put(1, 2)), bad...)), []int{0, 0, 1, 1}, api.ErrKind},
	} {
		if p, e := chain.Play(c.pairs, c.scripts, c.picks); e != c.e || !isNothing(p) {
			t.Errorf("%s: Play = %v, %d, want %d", c.name, p, e, c.e)
		}
	}
	for _, kind := range noKinds() {
		if p, e := chain.Play(chainOf(1, 1), workers(ops(get(1)), ops(api.Op{Kind: kind})), []int{0, 0}); e != api.ErrKind || !isNothing(p) {
			t.Errorf("kind %d: Play = %v, %d", kind, p, e)
		}
	}
}
