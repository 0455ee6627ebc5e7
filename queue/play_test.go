package queue_test

import (
	"math"
	"math/rand"
	"slices"
	"testing"

	"larch/api"
	"larch/queue"
)

func TestPlayByExamples(t *testing.T) { // P10.1
	two := workers(ops(put(5)), ops(put(6)))
	helped := []int{0, 0, 0, 0, 1, 1, 1, 1}
	p := wantPlay(t, nil, two, helped)
	steps := []api.Step{{Worker: 0, Kind: api.Start}, {Worker: 0, Kind: api.Load}, {Worker: 0, Kind: api.Load}, {Worker: 0, Kind: api.Cas},
		{Worker: 1, Kind: api.Start}, {Worker: 1, Kind: api.Load}, {Worker: 1, Kind: api.Load}, {Worker: 1, Kind: api.Cas}}
	if !slices.Equal(p.Steps, steps) || !slices.Equal(p.Items, []int{5}) || p.Lag != 0 || len(p.History) != 2 || p.Ended[0] || p.Ended[1] {
		t.Errorf("example 3: %v", p)
	}
	if p = wantPlay(t, nil, two, helped[:7]); p.Lag != 1 || !slices.Equal(p.Items, []int{5}) {
		t.Errorf("example 3, ahead of the last pick: %v", p)
	}
	p = wantPlay(t, nil, two, append(helped, 0))
	if p.Steps[8] != (api.Step{Worker: 0, Kind: api.Cas, Ended: true}) || p.Lag != 0 || !slices.Equal(p.Items, []int{5}) || !p.Ended[0] || len(p.History) != 3 || !sameEvent(p.History[2], api.Event{Thread: 0, Return: true, Op: put(5), Ret: api.Ret{Ok: true}}) {
		t.Errorf("example 4: %v", p)
	}
	if p, e := queue.Play(nil, workers(ops(api.Op{Kind: 3})), nil); e != api.ErrKind || !isNothing(p) {
		t.Errorf("example 5: %v, %d", p, e)
	}
	if p, e := queue.Play(nil, nil, nil); e != api.ErrArg || !isNothing(p) {
		t.Errorf("example 5: %v, %d", p, e)
	}
	both := workers(ops(take), ops(take))
	p = wantPlay(t, []int{9}, both, []int{0, 1, 0, 1, 0, 1, 0, 1, 0, 1, 1, 1, 1})
	history := []api.Event{{Thread: 0, Op: take}, {Thread: 1, Op: take}, {Thread: 0, Return: true, Op: take, Ret: api.Ret{Ok: true, Val: 9}}, {Thread: 1, Return: true, Op: take}}
	if !slices.EqualFunc(p.History, history, sameEvent) || p.Steps[9] != (api.Step{Worker: 1, Kind: api.Cas}) || p.Steps[12] != (api.Step{Worker: 1, Kind: api.Load, Ended: true}) || len(p.Items) != 0 {
		t.Errorf("example 6: %v", p)
	}
}

// TestPlayOfAllPicks: every list of eleven picks of two workers with one operation each; and games of more.
func TestPlayOfAllPicks(t *testing.T) { // P10.1
	for _, vals := range [][]int{nil, {7}, {7, 8}} {
		for _, a := range ops(put(1), take) {
			for _, b := range ops(put(2), take) {
				eachList(2, 11, func(picks []int) { wantPlay(t, vals, workers(ops(a), ops(b)), picks) })
			}
		}
	}
	eachList(2, 13, func(picks []int) { wantPlay(t, nil, workers(ops(put(1), take), ops(put(2), take)), picks) })
	eachList(3, 8, func(picks []int) { wantPlay(t, nil, workers(ops(put(1)), ops(take), ops(put(2))), picks) })
}

func TestPlayByChance(t *testing.T) { // P10.1
	r := rand.New(rand.NewSource(1))
	lagged, emptied, failed := 0, 0, 0
	for range 800 {
		scripts := someScripts(r, 1+r.Intn(6), 6)
		p := wantPlay(t, someVals(r, 3), scripts, somePicks(r, len(scripts), 200))
		lagged += p.Lag
		for _, e := range p.History {
			if e.Return && !e.Ret.Ok {
				emptied++
			}
		}
		failed += failures(p.Steps)
	}
	if lagged < 50 || emptied < 50 || failed < 300 {
		t.Errorf("%d games end with a tail that lags, %d Takes of nothing, %d tries again: the test sees too little", lagged, emptied, failed)
	}
}

// failures: the compare-and-swaps behind which their worker loads again, without a Start.
func failures(steps []api.Step) int {
	n := 0
	last := map[int]int{} // by worker: the kind of its last access
	for _, s := range steps {
		if s.Kind == -1 {
			continue
		}
		if last[s.Worker] == api.Cas && s.Kind == api.Load {
			n++
		}
		last[s.Worker] = s.Kind
	}
	return n
}

// TestPlayGoesOn: a game of the beginning of the picks is the beginning of the game.
func TestPlayGoesOn(t *testing.T) { // P10.1
	r := rand.New(rand.NewSource(2))
	for range 20 {
		scripts, vals := someScripts(r, 3, 4), someVals(r, 3)
		picks := somePicks(r, 3, 80)
		whole := wantPlay(t, vals, scripts, picks)
		for n := range picks {
			part := wantPlay(t, vals, scripts, picks[:n])
			if !slices.Equal(part.Steps, whole.Steps[:n]) || !slices.EqualFunc(part.History, whole.History[:len(part.History)], sameEvent) {
				t.Fatalf("Play(%v, %v, %v): the first %d picks give %v", vals, scripts, picks, n, part)
			}
		}
	}
}

// TestTakeHelps: the tail stands at the link that counts for nothing, and a value behind it: Take first helps the tail on.
func TestTakeHelps(t *testing.T) { // P10.1
	scripts := workers(ops(put(5)), ops(take))
	picks := []int{0, 0, 0, 0, 1, 1, 1, 1, 1}
	p := wantPlay(t, nil, scripts, picks)
	if p.Lag != 0 || !slices.Equal(p.Items, []int{5}) || p.Steps[8] != (api.Step{Worker: 1, Kind: api.Cas}) {
		t.Errorf("behind the help: %v", p)
	}
	p = wantPlay(t, nil, scripts, append(picks, 1, 1, 1, 1, 0))
	if len(p.Items) != 0 || !p.Ended[0] || !p.Ended[1] || !sameRet(p.History[2].Ret, api.Ret{Ok: true, Val: 5}) {
		t.Errorf("at the end: %v", p)
	}
}

func TestPlayOfLittle(t *testing.T) { // P10.1
	wantPlay(t, nil, workers(nil), nil)
	wantPlay(t, []int{3}, workers(nil, ops(), ops(take)), []int{0, 1, 2, 2, 2, 2, 2, 2, 3, -1, math.MaxInt, math.MinInt})
	wantPlay(t, []int{3, 3}, workers(ops(take), nil), []int{1, 1, 1})
	wantPlay(t, nil, workers(ops(put(1))), nil)
	wantPlay(t, []int{math.MinInt, math.MaxInt}, workers(ops(put(math.MinInt), take, take, take)), make([]int, 30))
}

func TestPlayAtTheLimits(t *testing.T) { // P10.1
	vals := make([]int, api.MaxOps)
	for i := range vals {
		vals[i] = -i
	}
	crew := make([][]api.Op, api.MaxThreads)
	crew[0], crew[63] = slices.Repeat(ops(take), api.MaxOps), slices.Repeat(ops(put(1)), api.MaxOps)
	var picks []int
	for i := range 12000 {
		picks = append(picks, 63*(i%2))
	}
	p := wantPlay(t, vals, crew, picks)
	if slices.Contains(p.Ended, false) || !slices.Equal(p.Items, slices.Repeat([]int{1}, api.MaxOps)) {
		t.Errorf("who ended: %v; left %v", p.Ended, p.Items)
	}
	many, e := queue.Play([]int{1}, workers(ops(take)), make([]int, api.MaxPicks))
	if e != api.OK || len(many.Steps) != api.MaxPicks || len(many.Items) != 0 || !many.Steps[4].Ended || many.Steps[api.MaxPicks-1] != (api.Step{Kind: -1}) {
		t.Errorf("as many picks as there may be: %d steps, left %v, %d", len(many.Steps), many.Items, e)
	}
}

// refused are vals, scripts and picks that Play refuses, and, where picks are none, Rush.
type refused struct {
	name    string
	vals    []int
	scripts [][]api.Op
	picks   []int
	e       api.Errno
}

func refusals() []refused {
	long, wrong := make([]int, api.MaxOps+1), ops(api.Op{Kind: 3})
	longScript := slices.Repeat(ops(take), api.MaxOps+1)
	manyPicks := make([]int, api.MaxPicks+1)
	return []refused{
		{"no script", nil, nil, nil, api.ErrArg},
		{"no script, and many picks", nil, workers(), manyPicks, api.ErrArg},
		{"no script, and many vals", long, workers(), nil, api.ErrBig},
		{"65 scripts", nil, make([][]api.Op, api.MaxThreads+1), nil, api.ErrArg},
		{"65 long scripts", nil, slices.Repeat(workers(longScript), api.MaxThreads+1), nil, api.ErrArg},
		{"65 scripts, many vals", long, make([][]api.Op, api.MaxThreads+1), nil, api.ErrBig},
		{"65 scripts, one of a wrong kind", nil, append(make([][]api.Op, api.MaxThreads), wrong), nil, api.ErrKind},
		{"many vals", long, workers(nil), nil, api.ErrBig},
		{"many vals and a wrong kind", long, workers(nil, wrong), nil, api.ErrKind},
		{"a long script", nil, workers(nil, longScript), nil, api.ErrBig},
		{"a long script ahead of a wrong kind", nil, workers(longScript, wrong), nil, api.ErrKind},
		{"a long script of a wrong kind", nil, workers(make([]api.Op, api.MaxOps+1)), nil, api.ErrKind},
		{"many picks", nil, workers(nil), manyPicks, api.ErrBig},
		{"many picks and a wrong kind", nil, workers(wrong), manyPicks, api.ErrKind},
		{"kind 0", nil, workers(ops(api.Op{})), nil, api.ErrKind},
		{"kind 3 of the last worker", nil, workers(ops(put(1)), ops(take, api.Op{Kind: 3})), nil, api.ErrKind},
		{"kind -1", nil, workers(ops(api.Op{Kind: -1})), nil, api.ErrKind},
		{"the least kind", nil, workers(ops(api.Op{Kind: math.MinInt})), nil, api.ErrKind},
	}
}

func TestPlayThatIsRefused(t *testing.T) { // P10.1
	for _, c := range refusals() {
		if p, e := queue.Play(c.vals, c.scripts, c.picks); e != c.e || !isNothing(p) {
			t.Errorf("%s: Play = %v, %d, want %d", c.name, p, e, c.e)
		}
	}
}
