package bst_test

import (
	"math"
	"math/rand"
	"slices"
	"testing"

	"larch/api"
	"larch/baton"
	"larch/bst"
	"larch/model"
	"larch/table"
)

func TestPlayByExamples(t *testing.T) { // P21.2, P21.3
	both := workers(ops(put(1, 1)), ops(put(2, 2)))
	p := wantPlay(t, nil, both, slices.Repeat([]int{0, 1}, 300))
	pairs, _ := table.Pairs(p.Table)
	if slices.Contains(p.Ended, false) || !slices.Equal(pairs, pairsOf(1, 1, 2, 2)) || len(p.History) != 4 {
		t.Errorf("example 5: %v", p)
	}
	for _, e := range p.History {
		if e.Return && !model.SameRet(e.Ret, api.Ret{}) {
			t.Errorf("example 5: %v", e)
		}
	}
	if p, e := bst.Play(nil, nil, nil); e != api.ErrArg || !isNothing(p) {
		t.Errorf("example 4: %v, %d", p, e)
	}
}

// TestPlayOfEachPlace: one worker goes on up to each of its accesses, then the other one up to each of its own, and on from there.
func TestPlayOfEachPlace(t *testing.T) { // P21.2, P21.3
	start := pairsOf(2, 20, 4, 40, 3, 30)
	mine := ops(get(3), put(3, 7), put(1, 7), ifAbsent(5, 7), del(2), del(3))
	others := ops(put(3, 8), ifAbsent(1, 8), del(2), del(3), del(4))
	again := 0
	for _, a := range mine {
		for _, b := range others {
			long, short := accesses(t, start, a), accesses(t, start, b)
			for i := range long + 1 {
				for j := 0; j <= short; j += 1 + i%3 {
					picks := slices.Concat(times(i, 0), times(j, 1), times(200, i%2), times(200, 1-i%2))
					p := wantPlay(t, start, workers(ops(a), ops(b)), picks)
					if slices.Contains(p.Ended, false) {
						t.Fatalf("Play(%v, (%v, %v), %v): who ended: %v", start, a, b, picks, p.Ended)
					}
					if len(baton.Thin(p.Steps)) > long+short {
						again++
					}
				}
			}
		}
	}
	if again < 1000 {
		t.Errorf("%d games in which one began anew: the test sees too little", again)
	}
}

// TestPlayAroundTheEmptyTree: the first key comes and the last key goes, while another one is at work there.
func TestPlayAroundTheEmptyTree(t *testing.T) { // P21.2, P21.3
	for _, start := range [][]api.Pair{nil, pairsOf(1, 10), pairsOf(1, 10, 2, 20)} {
		for _, scripts := range [][][]api.Op{
			workers(ops(put(1, 7)), ops(put(1, 8))), workers(ops(put(1, 7), del(1)), ops(ifAbsent(2, 8))), workers(ops(del(1)), ops(put(1, 8))), workers(ops(del(1)), ops(del(1))), workers(ops(del(1)), ops(del(2))), workers(ops(del(1), get(2)), ops(put(2, 8), get(1))),
		} {
			for i := range 30 {
				for j := range 30 {
					wantPlay(t, start, scripts, slices.Concat(times(i, 0), times(j, 1), times(3, 0), times(100, 1), times(100, 0)))
				}
			}
		}
	}
}

func TestPlayByChance(t *testing.T) { // P21.2, P21.3
	r := rand.New(rand.NewSource(2))
	pending, open := 0, 0
	for range 3000 {
		scripts := make([][]api.Op, 1+r.Intn(5))
		for range r.Intn(9) {
			w := r.Intn(len(scripts))
			scripts[w] = append(scripts[w], someOps(r, 1)...)
			scripts[w][len(scripts[w])-1].Key = r.Intn(5)
		}
		p := wantPlay(t, somePairs(r, 4), scripts, somePicks(r, len(scripts), r.Intn(300)))
		if len(p.History)%2 == 1 {
			pending++
		}
		if slices.Contains(p.Ended, false) {
			open++
		}
	}
	if pending < 300 || open < 300 {
		t.Errorf("%d histories with a pending operation, %d with workers that stand: the test sees too little", pending, open)
	}
}

// TestPlayOfMany: 64 workers on one key, and on keys of their own.
func TestPlayOfMany(t *testing.T) { // P21.2, P21.3
	for _, apart := range []int{0, 1, 7} {
		scripts := make([][]api.Op, api.MaxThreads)
		for w := range scripts {
			key := 100 - apart*w
			scripts[w] = ops(put(key, w), get(key), del(key), ifAbsent(key, -w))
		}
		p := wantPlay(t, nil, scripts, slices.Repeat(crewInTurn(), 15000))
		pairs, _ := table.Pairs(p.Table)
		if slices.Contains(p.Ended, false) || len(p.History) != 8*len(scripts) {
			t.Fatalf("keys %d apart: %v ended, %d events", apart, p.Ended, len(p.History))
		}
		wantTally(t, p.History, pairs)
		if apart == 0 {
			continue
		}
		for _, e := range p.History { // nobody else has the key
			if e.Return && e.Ret.Ok != (e.Op.Kind != api.Put) {
				t.Fatalf("keys of their own: %v", e)
			}
		}
		if len(pairs) != len(scripts) {
			t.Errorf("keys of their own: %v", pairs)
		}
	}
}

func crewInTurn() []int {
	picks := make([]int, api.MaxThreads)
	for w := range picks {
		picks[w] = w
	}
	return picks
}

// wantTally: of a history without pending operations, from an empty map: each key came as often as it went, or once more, and is there then.
func wantTally(t *testing.T, history []api.Event, pairs []api.Pair) {
	t.Helper()
	there := map[int]int{}
	for _, e := range history {
		switch k := e.Op.Kind; {
		case !e.Return:
		case k == api.Put && !e.Ret.Ok, k == api.PutIfAbsent && e.Ret.Ok:
			there[e.Op.Key]++
		case k == api.Delete && e.Ret.Ok:
			there[e.Op.Key]--
		}
	}
	for key, n := range there {
		_, has, _ := model.Find(pairs, key)
		if n != 0 && n != 1 || has != (n == 1) {
			t.Fatalf("key %d came %d times more than it went; is it there: %v", key, n, has)
		}
	}
}

// TestPlayOfOne: enough picks give what Alone gives, and fewer a beginning of that.
func TestPlayOfOne(t *testing.T) { // P21.4
	r := rand.New(rand.NewSource(3))
	for range 200 {
		start, script := somePairs(r, 6), someOps(r, 1+r.Intn(6))
		kinds, _ := bst.Kinds(start, script)
		rets, tree, _ := bst.Alone(start, script)
		p := wantPlay(t, start, workers(script), times(len(kinds)+r.Intn(3), 0))
		if !slices.Equal(p.Table, tree) || !p.Ended[0] || !slices.Equal(kindsOf(p), kinds) {
			t.Fatalf("Play(%v, %v) of one worker = %v, want %v, %v", start, script, p, tree, kinds)
		}
		if !sameRets(retsOf(p), rets) || len(p.History) != 2*len(script) {
			t.Fatalf("Play(%v, %v) of one worker = %v, want %v", start, script, p.History, rets)
		}
		n := r.Intn(len(kinds))
		first := wantPlay(t, start, workers(script), times(n, 0))
		had := retsOf(first)
		if first.Ended[0] || !slices.Equal(kindsOf(first), kinds[:n]) || !sameRets(had, rets[:len(had)]) {
			t.Fatalf("%d picks: %v", n, first)
		}
		done, _, _ := model.Run(model.Of(start), script[:len(had)])
		next, _, _ := model.Run(model.Of(start), script[:min(len(script), len(had)+1)])
		if left, _ := table.Pairs(first.Table); !slices.Equal(left, done) && !slices.Equal(left, next) {
			t.Fatalf("%d picks: the pairs are %v, want %v or %v", n, left, done, next)
		}
	}
}

// kindsOf: of the steps that did something.
func kindsOf(p bst.Played) []int {
	var kinds []int
	for _, s := range p.Steps {
		if s.Kind != -1 {
			kinds = append(kinds, s.Kind)
		}
	}
	return kinds
}

func retsOf(p bst.Played) []api.Ret {
	var rets []api.Ret
	for _, e := range p.History {
		if e.Return {
			rets = append(rets, e.Ret)
		}
	}
	return rets
}

// TestPlayThatGoesOn: behind each pick the history is a beginning of the whole; picks that do nothing change nothing.
func TestPlayThatGoesOn(t *testing.T) { // P21.2, P21.3
	r := rand.New(rand.NewSource(4))
	for range 8 {
		start := somePairs(r, 4)
		scripts := workers(ops(put(1, 1), del(2)), ops(del(1), ifAbsent(2, 2)), ops(), ops(put(1, 3), put(2, 3)))
		picks := somePicks(r, len(scripts), 400)
		all := wantPlay(t, start, scripts, picks)
		for n := range picks {
			p := wantPlay(t, start, scripts, picks[:n])
			if len(p.History) > len(all.History) || !slices.EqualFunc(p.History, all.History[:len(p.History)], sameEvent) || !slices.Equal(p.Steps, all.Steps[:n]) {
				t.Fatalf("the first %d picks: %v, want a beginning of %v", n, p, all)
			}
		}
		thin := wantPlay(t, start, scripts, baton.Thin(all.Steps))
		if !slices.Equal(thin.Table, all.Table) || !slices.EqualFunc(thin.History, all.History, sameEvent) {
			t.Fatalf("without the picks that do nothing: %v, want %v", thin, all)
		}
	}
}

func sameEvent(a, b api.Event) bool {
	return a.Thread == b.Thread && a.Return == b.Return && a.Op == b.Op && model.SameRet(a.Ret, b.Ret)
}

func TestPlayWithoutWork(t *testing.T) { // P21.2, P21.3
	start := pairsOf(3, 3, 1, 1)
	p := wantPlay(t, start, workers(ops(put(2, 2)), ops(get(1))), nil)
	if len(p.History) != 0 || slices.Contains(p.Ended, true) || !slices.Equal(p.Table, bst.Of(start).Table()) {
		t.Errorf("no picks: %v", p)
	}
	p = wantPlay(t, start, workers(nil, ops()), []int{0, 1, -1, 2, math.MaxInt})
	if len(p.History) != 0 || slices.Contains(p.Ended, false) || len(kindsOf(p)) != 0 {
		t.Errorf("no operations: %v", p)
	}
	p = wantPlay(t, start, workers(ops(put(2, 2))), []int{-1, 1, math.MinInt, 0})
	steps := []api.Step{{Worker: -1, Kind: -1}, {Worker: 1, Kind: -1}, {Worker: math.MinInt, Kind: -1}, {Worker: 0, Kind: api.Start}}
	if !slices.Equal(p.Steps, steps) || len(p.History) != 1 || p.Ended[0] {
		t.Errorf("the Start alone: %v", p)
	}
}

func TestPlayAtTheLimits(t *testing.T) { // P21.2, P21.3
	crew := make([][]api.Op, api.MaxThreads)
	for i := range api.MaxOps {
		crew[0], crew[63] = append(crew[0], put(i%9, i)), append(crew[63], del(i%7))
	}
	start := make([]api.Pair, api.MaxOps)
	for i := range start {
		start[i] = api.Pair{Key: i / 2, Val: i}
	}
	picks := make([]int, api.MaxPicks)
	for i := range picks {
		picks[i] = 63 * (i / 5 % 2)
	}
	p := wantPlay(t, start, crew, picks)
	if slices.Contains(p.Ended, false) || len(p.History) != 4*api.MaxOps {
		t.Errorf("who ended: %v; %d events", p.Ended, len(p.History))
	}
}

func TestPlayThatIsRefused(t *testing.T) { // P21.2
	long, bad := make([]api.Pair, api.MaxOps+1), ops(api.Op{Kind: 99})
	longScript, manyPicks := slices.Repeat(ops(get(1)), api.MaxOps+1), make([]int, api.MaxPicks+1)
	for _, c := range []struct {
		name    string
		start   []api.Pair
		scripts [][]api.Op
		picks   []int
		e       api.Errno
	}{
		{"no script", nil, nil, nil, api.ErrArg},
		{"no script, and many picks", nil, workers(), manyPicks, api.ErrArg},
		{"no script, and many pairs", long, workers(), nil, api.ErrBig},
		{"65 scripts", nil, make([][]api.Op, api.MaxThreads+1), nil, api.ErrArg},
		{"65 scripts, one of no kind", long, append(make([][]api.Op, api.MaxThreads), bad), manyPicks, api.ErrKind},
		{"65 scripts, and many pairs", long, make([][]api.Op, api.MaxThreads+1), nil, api.ErrBig},
		{"many pairs", long, workers(nil), nil, api.ErrBig},
		{"many pairs, and no kind", long, workers(nil, bad), nil, api.ErrKind},
		{"a long script", nil, workers(nil, longScript), nil, api.ErrBig},
		{"a long script ahead of no kind", nil, workers(longScript, bad), nil, api.ErrKind},
		{"many picks", nil, workers(nil), manyPicks, api.ErrBig},
		{"many picks, and no kind", nil, workers(bad), manyPicks, api.ErrKind},
		{"the last one of no kind", pairsOf(1, 1), workers(ops(get(1)), append(ops(put(1, 2)), bad...)), []int{0, 0, 1, 1}, api.ErrKind},
	} {
		if p, e := bst.Play(c.start, c.scripts, c.picks); e != c.e || !isNothing(p) {
			t.Errorf("%s: Play = %v, %d, want %d", c.name, p, e, c.e)
		}
	}
	for _, kind := range noKinds() {
		if p, e := bst.Play(pairsOf(1, 1), workers(ops(get(1)), ops(api.Op{Kind: kind})), []int{0, 0}); e != api.ErrKind || !isNothing(p) {
			t.Errorf("kind %d: Play = %v, %d", kind, p, e)
		}
	}
}
