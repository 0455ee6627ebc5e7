package stack_test

import (
	"math"
	"math/rand"
	"slices"
	"testing"

	"larch/api"
	"larch/stack"
)

func TestPlayByExamples(t *testing.T) { // P9.2
	p := wantPlay(t, nil, workers(ops(push(1)), ops(push(2))), []int{0, 1, 0, 1, 0, 1, 1, 1})
	steps := []api.Step{{Worker: 0, Kind: api.Start}, {Worker: 1, Kind: api.Start}, {Worker: 0, Kind: api.Load}, {Worker: 1, Kind: api.Load},
		{Worker: 0, Kind: api.Cas, Ended: true}, {Worker: 1, Kind: api.Cas}, {Worker: 1, Kind: api.Load}, {Worker: 1, Kind: api.Cas, Ended: true}}
	notes := []stack.Note{{Worker: 0, Op: push(1)}, {Worker: 1, Op: push(2)}, {Worker: 0, Return: true, Op: push(1), Got: stack.Got{Ok: true}}, {Worker: 1, Return: true, Op: push(2), Got: stack.Got{Ok: true}}}
	if !slices.Equal(p.Steps, steps) || !slices.EqualFunc(p.Notes, notes, sameNote) || !slices.Equal(p.Left, []int{2, 1}) || !slices.Equal(p.Ended, []bool{true, true}) {
		t.Errorf("example 2: %v", p)
	}
	p = wantPlay(t, []int{7}, workers(ops(pop), ops(pop)), []int{0, 0, 1, 1, 0, 1, 1})
	if len(p.Notes) != 4 || !sameGot(p.Notes[2].Got, stack.Got{Ok: true, Val: 7}) || !sameGot(p.Notes[3].Got, stack.Got{}) || len(p.Left) != 0 || p.Steps[5] != (api.Step{Worker: 1, Kind: api.Cas}) {
		t.Errorf("example 3: %v", p)
	}
	p = wantPlay(t, nil, workers(ops(push(1))), []int{0, 0})
	if len(p.Notes) != 1 || p.Notes[0].Return || len(p.Left) != 0 || p.Ended[0] {
		t.Errorf("example 4: %v", p)
	}
	p = wantPlay(t, nil, workers(nil), []int{0})
	if !slices.Equal(p.Steps, []api.Step{{Worker: 0, Kind: -1}}) || !p.Ended[0] {
		t.Errorf("example 5: %v", p)
	}
	if p, e := stack.Play(nil, nil, nil); e != api.ErrArg || !isNothing(p) {
		t.Errorf("example 5: %v, %d", p, e)
	}
	if p, e := stack.Play(nil, workers(ops(stack.Op{Kind: 9})), nil); e != api.ErrKind || !isNothing(p) {
		t.Errorf("example 5: %v, %d", p, e)
	}
}

// TestPlayOfAllPicks: every list of eight picks of two workers with one operation each, of all kinds; and longer games.
func TestPlayOfAllPicks(t *testing.T) { // P9.2
	words := ops(push(4), pop, top, take, all)
	for _, start := range [][]int{nil, {5, 6}} {
		for _, a := range words {
			for _, b := range words {
				eachList(2, 8, func(picks []int) { wantPlay(t, start, workers(ops(a), ops(b)), picks) })
			}
		}
	}
	eachList(2, 11, func(picks []int) { wantPlay(t, []int{5}, workers(ops(push(1), pop), ops(pop, push(2))), picks) })
	eachList(3, 7, func(picks []int) { wantPlay(t, nil, workers(ops(push(1)), ops(push(2)), ops(take)), picks) })
}

func TestPlayByChance(t *testing.T) { // P9.2
	r := rand.New(rand.NewSource(2))
	failed := 0
	for range 600 {
		scripts := someScripts(r, 1+r.Intn(6), 6)
		p := wantPlay(t, someStart(r, 4), scripts, somePicks(r, len(scripts), 150))
		failed += failures(p.Steps)
	}
	if failed < 500 {
		t.Errorf("%d compare-and-swaps that fail: the test sees too little", failed)
	}
}

// failures: the compare-and-swaps behind which their worker loads again, without a Start.
func failures(steps []api.Step) int {
	n := 0
	last := map[int]int{} // by worker: the kind of its last access
	for _, s := range steps {
		if s.Kind == -1 {
			continue
		}
		if last[s.Worker] == api.Cas && s.Kind == api.Load {
			n++
		}
		last[s.Worker] = s.Kind
	}
	return n
}

// TestPlayGoesOn: a game of the beginning of the picks is the beginning of the game.
func TestPlayGoesOn(t *testing.T) { // P9.2
	r := rand.New(rand.NewSource(3))
	for range 20 {
		scripts, start := someScripts(r, 3, 4), someStart(r, 3)
		picks := somePicks(r, 3, 60)
		whole := wantPlay(t, start, scripts, picks)
		for n := range picks {
			part := wantPlay(t, start, scripts, picks[:n])
			if !slices.Equal(part.Steps, whole.Steps[:n]) || !slices.EqualFunc(part.Notes, whole.Notes[:len(part.Notes)], sameNote) {
				t.Fatalf("Play(%v, %v, %v): the first %d picks give %v", start, scripts, picks, n, part)
			}
		}
	}
}

// TestPlayOfAnOldTop: the piece that a Pop has loaded is on top again, as what lay above it has gone; one with equal contents is another.
func TestPlayOfAnOldTop(t *testing.T) { // P9.2
	p := wantPlay(t, []int{5}, workers(ops(push(6), pop), ops(pop)), []int{1, 1, 0, 0, 0, 0, 0, 0, 1})
	if last := p.Notes[len(p.Notes)-1]; !sameGot(last.Got, stack.Got{Ok: true, Val: 5}) || len(p.Left) != 0 {
		t.Errorf("the same piece again: %v", p)
	}
	p = wantPlay(t, []int{5}, workers(ops(pop, push(5)), ops(pop)), []int{1, 1, 0, 0, 0, 0, 0, 0, 1, 1})
	if p.Steps[8] != (api.Step{Worker: 1, Kind: api.Cas}) || p.Steps[9] != (api.Step{Worker: 1, Kind: api.Load}) || !slices.Equal(p.Left, []int{5}) {
		t.Errorf("an equal piece: %v", p)
	}
	p = wantPlay(t, nil, workers(ops(push(1), pop), ops(push(2))), []int{1, 1, 0, 0, 0, 0, 0, 0, 1}) // nil is nil, whatever came between
	if !p.Steps[8].Ended || !slices.Equal(p.Left, []int{2}) {
		t.Errorf("nil again: %v", p)
	}
}

func TestPlayOfLittle(t *testing.T) { // P9.2
	wantPlay(t, nil, workers(nil), nil)
	wantPlay(t, []int{3}, workers(nil, ops(), ops(all)), []int{0, 1, 2, 2, 2, 3, -1, math.MaxInt, math.MinInt})
	wantPlay(t, []int{3, 3}, workers(ops(pop), nil), []int{1, 1, 1})
	wantPlay(t, nil, workers(ops(push(1))), nil)
	wantPlay(t, nil, workers(ops(stack.Op{Kind: stack.Pop, Val: 8}, stack.Op{Kind: stack.All, Val: -8})), []int{0, 0, 0, 0})
}

func TestPlayAtTheLimits(t *testing.T) { // P9.2
	start := make([]int, api.MaxOps)
	for i := range start {
		start[i] = -i
	}
	crew := make([][]stack.Op, api.MaxThreads)
	crew[0], crew[63] = slices.Repeat(ops(pop), api.MaxOps), slices.Repeat(ops(push(1)), api.MaxOps)
	var picks []int
	for i := range 12000 {
		picks = append(picks, 63*(i%2))
	}
	p := wantPlay(t, start, crew, picks)
	if slices.Contains(p.Ended, false) || len(p.Left) != api.MaxOps {
		t.Errorf("who ended: %v; left %v", p.Ended, p.Left)
	}
	many, e := stack.Play([]int{1}, workers(ops(pop)), make([]int, api.MaxPicks))
	if e != api.OK || len(many.Steps) != api.MaxPicks || len(many.Left) != 0 || !many.Steps[2].Ended || many.Steps[api.MaxPicks-1] != (api.Step{Kind: -1}) {
		t.Errorf("as many picks as there may be: %d steps, left %v, %d", len(many.Steps), many.Left, e)
	}
}

func TestPlayThatIsRefused(t *testing.T) { // P9.2
	long, wrong := make([]int, api.MaxOps+1), ops(stack.Op{Kind: 6})
	longScript := slices.Repeat(ops(pop), api.MaxOps+1)
	manyPicks := make([]int, api.MaxPicks+1)
	for _, c := range []struct {
		name    string
		start   []int
		scripts [][]stack.Op
		picks   []int
		e       api.Errno
	}{
		{"no script", nil, nil, nil, api.ErrArg},
		{"no script, and all else is too much", long, workers(), manyPicks, api.ErrArg},
		{"65 scripts", nil, make([][]stack.Op, api.MaxThreads+1), nil, api.ErrArg},
		{"65 scripts, and all else is too much", long, slices.Repeat(workers(longScript), api.MaxThreads+1), manyPicks, api.ErrArg},
		{"65 scripts of a wrong kind", nil, slices.Repeat(workers(wrong), api.MaxThreads+1), nil, api.ErrArg},
		{"a long start", long, workers(nil), nil, api.ErrBig},
		{"a long start and a wrong kind", long, workers(wrong), nil, api.ErrBig},
		{"a long script", nil, workers(nil, longScript), nil, api.ErrBig},
		{"a wrong kind ahead of a long script", nil, workers(wrong, longScript), nil, api.ErrBig},
		{"a long script of a wrong kind", nil, workers(make([]stack.Op, api.MaxOps+1)), nil, api.ErrBig},
		{"many picks", nil, workers(nil), manyPicks, api.ErrBig},
		{"many picks and a wrong kind", nil, workers(wrong), manyPicks, api.ErrBig},
		{"kind 0", nil, workers(ops(stack.Op{Kind: 0})), []int{0}, api.ErrKind},
		{"kind 6 of the last worker", nil, workers(ops(push(1)), ops(pop, stack.Op{Kind: 6})), []int{0, 0, 0}, api.ErrKind},
		{"kind -1", nil, workers(ops(stack.Op{Kind: -1})), nil, api.ErrKind},
		{"the least kind", nil, workers(ops(stack.Op{Kind: math.MinInt})), nil, api.ErrKind},
	} {
		if p, e := stack.Play(c.start, c.scripts, c.picks); e != c.e || !isNothing(p) {
			t.Errorf("%s: Play = %v, %d, want %d", c.name, p, e, c.e)
		}
	}
}
