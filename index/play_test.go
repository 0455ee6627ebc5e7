package index_test

import (
	"math"
	"math/rand"
	"slices"
	"testing"

	"larch/api"
	"larch/baton"
	"larch/cell"
	"larch/index"
	"larch/model"
	"larch/search"
	"larch/table"
	"larch/weigh"
)

func TestAloneByExamples(t *testing.T) { // P24.1
	rets, list, e := index.Alone(pairsOf(5, 50, 2, 20), ops(after(2), rangeOf(0, 9), greatest(), del(2), least()))
	five := api.Ret{Ok: true, Key: 5, Val: 50}
	want := []api.Ret{five, {Ok: true, Pairs: pairsOf(2, 20, 5, 50)}, five, {Ok: true, Val: 20}, five}
	if e != api.OK || !sameRets(rets, want) || !slices.Equal(pairsIn(t, list), pairsOf(5, 50)) {
		t.Errorf("example 1: %v, %v, %d", rets, list, e)
	}
}

func TestAloneByChance(t *testing.T) { // P24.1
	r := rand.New(rand.NewSource(5))
	wantAlone(t, nil, nil)
	for range 1000 {
		wantTree(t, wantAlone(t, somePairs(r, 15), someOps(r, r.Intn(40))), 0)
	}
}

// TestAloneOfEachKind: each operation on each small map.
func TestAloneOfEachKind(t *testing.T) { // P24.1
	for some := range 1 << 4 {
		var start []api.Pair
		for i := range 4 {
			if some>>i&1 == 1 {
				start = append(start, api.Pair{Key: 2 * i, Val: 10 * i})
			}
		}
		for key := -1; key <= 7; key++ {
			for _, o := range ops(get(key), put(key, 7), ifAbsent(key, 8), del(key), after(key), before(key), least(), greatest(), everything(), rangeOf(key, key), rangeOf(key, 4), rangeOf(key, -9)) {
				wantAlone(t, start, ops(o, o, everything()))
			}
		}
	}
}

func TestAloneAtTheEnds(t *testing.T) { // P24.1
	ends := []int{math.MinInt, math.MinInt + 1, -1, 0, 1, math.MaxInt - 1, math.MaxInt}
	for _, key := range ends {
		for _, other := range ends {
			wantAlone(t, same(other), ops(put(key, 1), after(key), before(key), after(other), before(other), rangeOf(key, other), rangeOf(other, key), least(), greatest(), del(other), everything(), after(key), del(key), least(), greatest()))
		}
	}
}

func TestAloneAtTheLimits(t *testing.T) { // P24.1
	r := rand.New(rand.NewSource(6))
	for _, keys := range []int{1, 10, 2000} {
		start, script := make([]api.Pair, api.MaxOps), make([]api.Op, api.MaxOps)
		for i := range start {
			start[i] = api.Pair{Key: r.Intn(keys), Val: i}
			script[i] = api.Op{Kind: 1 + r.Intn(9), Key: r.Intn(keys), Val: i, Hi: r.Intn(keys)}
		}
		wantTree(t, wantAlone(t, start, script), 0)
	}
}

func TestAloneThatIsRefused(t *testing.T) { // P24.1
	big, long, bad := make([]api.Pair, api.MaxOps+1), slices.Repeat(ops(get(1)), api.MaxOps+1), ops(api.Op{Kind: 10})
	for i, c := range []struct {
		start  []api.Pair
		script []api.Op
		e      api.Errno
	}{
		{nil, bad, api.ErrKind}, {big, bad, api.ErrKind}, {nil, append(slices.Clone(long), bad...), api.ErrKind}, {same(1), append(ops(put(1, 1)), bad...), api.ErrKind},
		{big, nil, api.ErrBig}, {nil, long, api.ErrBig}, {big, long, api.ErrBig},
	} {
		if rets, list, e := index.Alone(c.start, c.script); e != c.e || len(rets)+len(list) != 0 {
			t.Errorf("row %d: Alone = %v, %v, %d", i, rets, list, e)
		}
	}
	for _, kind := range noKinds() {
		if rets, list, e := index.Alone(nil, ops(put(1, 1), api.Op{Kind: kind})); e != api.ErrKind || len(rets)+len(list) != 0 {
			t.Errorf("kind %d: Alone = %v, %v, %d", kind, rets, list, e)
		}
	}
}

// TestPlayOfOne: picks enough give what Alone gives; fewer a beginning, whose table layer 19 comes by.
func TestPlayOfOne(t *testing.T) { // P24.5
	r := rand.New(rand.NewSource(7))
	for range 300 {
		start, script := somePairs(r, 10), someOps(r, 1+r.Intn(12))
		rets, list, _ := index.Alone(start, script)
		p := wantPlay(t, start, workers(script), times(5000, 0))
		if !p.Ended[0] || !sameRets(retsOf(p), rets) || !slices.Equal(p.Table, list) || len(p.History) != 2*len(script) {
			t.Fatalf("Play(%v, %v) of one worker = %v, want %v, %v", start, script, p, rets, list)
		}
		n := r.Intn(len(kindsOf(p)))
		first := wantPlay(t, start, workers(script), times(n, 0))
		if first.Ended[0] || !slices.Equal(first.Steps, p.Steps[:n]) || !slices.EqualFunc(first.History, p.History[:len(first.History)], sameEvent) {
			t.Fatalf("%d picks: %v", n, first)
		}
		if done := len(retsOf(first)); pendingOf(first.History) == 0 && !slices.Equal(first.Table, grown(t, start, script[:done])) {
			t.Fatalf("%d picks, %d operations are done: %v", n, done, first.Table)
		}
	}
}

// TestPlayAtEachLength: games with several workers, whole Ranges between the changes, at every length of their picks: the history, the tree, the violations against the pending updates, the height.
func TestPlayAtEachLength(t *testing.T) { // P24.3, P24.4
	r := rand.New(rand.NewSource(8))
	owing := 0
	for range 10 {
		start := somePairs(r, 9)
		scripts := workers(ops(put(1, 1), everything(), del(2)), ops(everything(), del(1)), ops(), ops(ifAbsent(3, 3), least(), put(4, 3)))
		picks := somePicks(r, len(scripts), 600)
		all := wantPlay(t, start, scripts, picks)
		for n := range picks {
			p := wantPlay(t, start, scripts, picks[:n])
			if len(p.History) > len(all.History) || !slices.EqualFunc(p.History, all.History[:len(p.History)], sameEvent) || !slices.Equal(p.Steps, all.Steps[:n]) {
				t.Fatalf("the first %d picks: %v, want a beginning of %v", n, p, all)
			}
			if faults, _ := weigh.Violations(p.Table); faults > 0 {
				owing++
			}
		}
		thin := wantPlay(t, start, scripts, baton.Thin(all.Steps))
		if !slices.Equal(thin.Table, all.Table) || !slices.EqualFunc(thin.History, all.History, sameEvent) {
			t.Fatalf("without the picks that do nothing: %v, want %v", thin, all)
		}
	}
	if owing < 100 {
		t.Errorf("%d tables with violations: the test sees too little", owing)
	}
}

func TestPlayByChance(t *testing.T) { // P24.3, P24.4
	r := rand.New(rand.NewSource(9))
	pending, owing, ranges := 0, 0, 0
	for range 4000 {
		start := somePairs(r, 12)
		scripts := make([][]api.Op, 1+r.Intn(5))
		for range r.Intn(search.MaxSearch + 1) {
			w := r.Intn(len(scripts))
			scripts[w] = append(scripts[w], someOps(r, 1)...)
			if r.Intn(4) == 0 {
				scripts[w][len(scripts[w])-1] = everything()
			}
		}
		p := wantPlay(t, start, scripts, somePicks(r, len(scripts), r.Intn(700)))
		if pendingOf(p.History) > 0 {
			pending++
		}
		if faults, _ := weigh.Violations(p.Table); faults > 0 {
			owing++
		}
		for _, e := range p.History {
			if e.Return && e.Op == everything() {
				ranges++
			}
		}
	}
	if pending < 500 || owing < 50 || ranges < 1000 {
		t.Errorf("%d games with pending updates, %d with their violations, %d whole Ranges: the test sees too little", pending, owing, ranges)
	}
}

// TestPlayOfEachPlace: one worker goes on up to each of its accesses, then the other one up to each of its own, and on from there.
func TestPlayOfEachPlace(t *testing.T) { // P24.3, P24.4
	start := same(2, 1, 3, 4)
	accesses := func(o api.Op) int {
		tape := cell.NewTape()
		_, _ = index.Of(start).Handle(tape).Do(o)
		return 1 + len(tape.Kinds())
	}
	again := 0
	for _, a := range ops(everything(), after(2), before(2), least(), greatest(), put(5, 7), del(1)) {
		for _, b := range ops(put(3, 8), put(0, 8), del(2), del(4), ifAbsent(5, 8)) {
			mine, others := accesses(a), accesses(b)
			for i := range mine + 1 {
				for j := 0; j <= others; j += 1 + i%7 {
					picks := slices.Concat(times(i, 0), times(j, 1), times(500, i%2), times(500, 1-i%2))
					p := wantPlay(t, start, workers(ops(a), ops(b)), picks)
					if slices.Contains(p.Ended, false) {
						t.Fatalf("(%v, %v), %v: who ended: %v", a, b, picks, p.Ended)
					}
					if len(kindsOf(p)) > mine+others {
						again++
					}
				}
			}
		}
	}
	if again < 500 {
		t.Errorf("%d games in which one began anew: the test sees too little", again)
	}
}

// TestPlayOfMany: 64 workers, whole Ranges between the changes, all in turn to their ends.
func TestPlayOfMany(t *testing.T) { // P24.3, P24.4
	for _, apart := range []int{0, 1, 7} {
		scripts := make([][]api.Op, api.MaxThreads)
		for w := range scripts {
			key := apart * w
			scripts[w] = ops(put(key, w), rangeOf(key-9, key+9), del(key), everything(), ifAbsent(key, -w))
		}
		picks, _ := baton.Robin(api.MaxThreads, 15000)
		p := wantPlay(t, nil, scripts, picks)
		if slices.Contains(p.Ended, false) || len(p.History) != 10*api.MaxThreads {
			t.Errorf("apart %d: who ended: %v; %d events", apart, p.Ended, len(p.History))
		}
		if pairs := pairsIn(t, p.Table); apart > 0 && len(pairs) != api.MaxThreads || apart == 0 && len(pairs) > 1 {
			t.Errorf("apart %d: %v", apart, pairs)
		}
		wantRanges(t, p.History)
	}
}

// wantRanges: the keys of each Range rise, and are those that it asks for.
func wantRanges(t *testing.T, history []api.Event) {
	t.Helper()
	for _, e := range history {
		if !e.Return || e.Op.Kind != api.Range {
			continue
		}
		if model.Check(e.Ret.Pairs) != api.OK {
			t.Errorf("Range = %v", e.Ret.Pairs)
		}
		for _, p := range e.Ret.Pairs {
			if p.Key < e.Op.Key || p.Key > e.Op.Hi {
				t.Errorf("%v = %v", e.Op, e.Ret.Pairs)
			}
		}
	}
}

// TestPlayOfAMovingPair: one worker moves a pair upwards; whole Ranges of others see it at one place, or at two neighbours.
func TestPlayOfAMovingPair(t *testing.T) { // P24.3
	var moves []api.Op
	for key := 1; key <= 30; key++ {
		moves = append(moves, put(key, key), del(key-1))
	}
	r := rand.New(rand.NewSource(10))
	seen := map[int]int{}
	for range 20 {
		scripts := workers(moves, slices.Repeat(ops(everything()), 20), slices.Repeat(ops(everything(), least(), greatest()), 10))
		p := wantPlay(t, same(0), scripts, somePicks(r, 3, 20000))
		last := map[int]int{}
		for _, e := range p.History {
			if !e.Return || e.Op.Kind != api.Range {
				continue
			}
			pairs := e.Ret.Pairs
			if len(pairs) != 1 && (len(pairs) != 2 || pairs[1].Key != pairs[0].Key+1) || pairs[0].Key < last[e.Thread] {
				t.Fatalf("behind %d thread %d sees %v", last[e.Thread], e.Thread, pairs)
			}
			last[e.Thread] = pairs[0].Key
			seen[pairs[0].Key]++
		}
	}
	if len(seen) < 20 {
		t.Errorf("seen at %v: the test sees too little", seen)
	}
}

func TestPlayWithoutWork(t *testing.T) { // P24.3, P24.4
	p := wantPlay(t, same(2, 1, 3), workers(nil, ops()), []int{0, 1, -1, 2, math.MaxInt})
	if len(p.History) != 0 || slices.Contains(p.Ended, false) || len(kindsOf(p)) != 0 || !slices.Equal(p.Table, grown(t, same(2, 1, 3), nil)) {
		t.Errorf("no operations: %v", p)
	}
	p = wantPlay(t, nil, workers(ops(put(2, 2)), nil), []int{-1, 2, math.MinInt, 0})
	steps := []api.Step{{Worker: -1, Kind: -1}, {Worker: 2, Kind: -1}, {Worker: math.MinInt, Kind: -1}, {Worker: 0, Kind: api.Start}}
	if !slices.Equal(p.Steps, steps) || len(p.History) != 1 || !slices.Equal(p.Ended, []bool{false, true}) || !slices.Equal(p.Table, table.Empty()) {
		t.Errorf("the Start alone: %v", p)
	}
	p = wantPlay(t, nil, workers(ops(rangeOf(5, 1))), []int{0})
	if !p.Ended[0] || !p.Steps[0].Ended || !sameRets(retsOf(p), []api.Ret{{Ok: true}}) {
		t.Errorf("a Range without an access: %v", p)
	}
}

func TestPlayAtTheLimits(t *testing.T) { // P24.3, P24.4
	r := rand.New(rand.NewSource(11))
	start, script := make([]api.Pair, api.MaxOps), make([]api.Op, api.MaxOps)
	for i := range start {
		start[i] = api.Pair{Key: r.Intn(3000), Val: i}
		script[i] = api.Op{Kind: 1 + r.Intn(8), Key: r.Intn(3000), Val: i}
	}
	crew := make([][]api.Op, api.MaxThreads)
	crew[0], crew[63] = script, script
	picks := make([]int, api.MaxPicks)
	for i := range picks {
		picks[i] = 63 * (i / 5 % 2)
	}
	p := wantPlay(t, start, crew, picks)
	if slices.Contains(p.Ended, false) || len(p.History) != 4*api.MaxOps {
		t.Errorf("who ended: %v; %d events", p.Ended, len(p.History))
	}
}

func TestPlayThatIsRefused(t *testing.T) { // P24.3
	big, long, bad, manyPicks := make([]api.Pair, api.MaxOps+1), slices.Repeat(ops(least()), api.MaxOps+1), ops(api.Op{Kind: 10}), make([]int, api.MaxPicks+1)
	for _, c := range []struct {
		name    string
		start   []api.Pair
		scripts [][]api.Op
		picks   []int
		e       api.Errno
	}{
		{"no kind", nil, workers(nil, append(ops(least()), bad...)), nil, api.ErrKind},
		{"no kind, and all else wrong", big, append(make([][]api.Op, api.MaxThreads), append(slices.Clone(long), bad...)), manyPicks, api.ErrKind},
		{"many pairs", big, workers(nil), nil, api.ErrBig},
		{"many pairs, and no script", big, nil, nil, api.ErrBig},
		{"many pairs, and too many scripts", big, make([][]api.Op, api.MaxThreads+1), nil, api.ErrBig},
		{"no script", nil, nil, nil, api.ErrArg},
		{"no script, and many picks", nil, workers(), manyPicks, api.ErrArg},
		{"65 scripts", nil, make([][]api.Op, api.MaxThreads+1), nil, api.ErrArg},
		{"65 scripts, a long one", nil, append(make([][]api.Op, api.MaxThreads), long), nil, api.ErrArg},
		{"a long script", nil, workers(nil, long), nil, api.ErrBig},
		{"many picks", nil, workers(nil), manyPicks, api.ErrBig},
	} {
		if p, e := index.Play(c.start, c.scripts, c.picks); e != c.e || !isNothing(p) {
			t.Errorf("%s: Play = %v, %d, want %d", c.name, p, e, c.e)
		}
	}
	for _, kind := range noKinds() {
		if p, e := index.Play(nil, workers(ops(least()), ops(api.Op{Kind: kind})), times(9, 0)); e != api.ErrKind || !isNothing(p) {
			t.Errorf("kind %d: Play = %v, %d", kind, p, e)
		}
	}
}
