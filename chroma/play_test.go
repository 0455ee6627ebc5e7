package chroma_test

import (
	"math"
	"math/rand"
	"slices"
	"testing"

	"larch/api"
	"larch/baton"
	"larch/chroma"
	"larch/model"
	"larch/seq"
	"larch/table"
	"larch/weigh"
)

func TestPlayByExamples(t *testing.T) { // P22.3, P22.5
	start, both := below(t, "(1:1=10)"), workers(ops(put(2, 20)), ops(put(3, 30)))
	p := wantPlay(t, start, both, nil)
	if len(p.History) != 0 || slices.Contains(p.Ended, true) || !slices.Equal(p.Table, start) {
		t.Errorf("example 5: %v", p)
	}
	p = wantAll(t, start, both, nil)
	pairs, _ := table.Pairs(p.Table)
	if !sameRets(retsOf(p), []api.Ret{{}, {}}) || !slices.Equal(pairs, []api.Pair{{Key: 1, Val: 10}, {Key: 2, Val: 20}, {Key: 3, Val: 30}}) {
		t.Errorf("example 5: %v", p)
	}
}

// TestPlayOfOne: enough picks give what Alone gives, and fewer a beginning of that.
func TestPlayOfOne(t *testing.T) { // P22.2
	r := rand.New(rand.NewSource(4))
	for range 200 {
		leaves := r.Intn(8)
		start, script := someFit(t, r, leaves), someOps(r, 1+r.Intn(6), 2*leaves+2)
		kinds, _ := chroma.Kinds(start, script)
		rets, list, _ := chroma.Alone(start, script)
		p := wantPlay(t, start, workers(script), times(len(kinds)+r.Intn(3), 0))
		if !p.Ended[0] || !slices.Equal(p.Table, list) || !slices.Equal(kindsOf(p), kinds) || !sameRets(retsOf(p), rets) {
			t.Fatalf("Play(%s, %v) of one worker = %v, want %v, %s", keysOf(start), script, p, rets, keysOf(list))
		}
		n := r.Intn(len(kinds))
		first := wantPlay(t, start, workers(script), times(n, 0))
		had := retsOf(first)
		if first.Ended[0] || !slices.Equal(kindsOf(first), kinds[:n]) || !sameRets(had, rets[:len(had)]) {
			t.Fatalf("%d picks: %v", n, first)
		}
		wantOnTheWay(t, start, script, len(had), first.Table)
	}
}

// wantOnTheWay: the table is one that layer 19 comes through in the operation behind so many, or the one ahead of it.
func wantOnTheWay(t *testing.T, start []api.Node, script []api.Op, done int, list []api.Node) {
	t.Helper()
	now, _, _, _ := seq.Run(start, script[:done])
	ways := [][]api.Node{now}
	if done < len(script) {
		changed, _, dirty, _ := seq.Change(now, script[done])
		ways = append(ways, changed)
		for n := 1; dirty; n++ {
			next, _, clean, _ := seq.Clean(changed, script[done].Key, n)
			ways = append(ways, next)
			dirty = !clean
		}
	}
	if !slices.ContainsFunc(ways, func(way []api.Node) bool { return slices.Equal(way, list) }) {
		t.Fatalf("%s isn't on the way of %v from %s, %d of which are done", keysOf(list), script, keysOf(start), done)
	}
}

// TestPlayOfOneAtEachPick: a Put and a Delete that take several steps.
func TestPlayOfOneAtEachPick(t *testing.T) { // P22.2
	for _, c := range []struct {
		text string
		op   api.Op
	}{
		{"(3:1 (2:0 (1:1=10) (2:1=20)) (4:0 (3:1=30) (4:1=40)))", put(5, 50)},
		{"(4:1 (2:1 (1:1=10) (2:1=20)) (6:1 (4:1=40) (6:1=60)))", del(2)},
		{"(2:1 (1:3=10) (2:3=20))", ifAbsent(3, 30)},
		{"(2:1 (1:3=10) (2:3=20))", del(2)},
		{"(2:1=20)", del(2)},
		{"", put(1, 1)},
	} {
		start := below(t, c.text)
		kinds, _ := chroma.Kinds(start, ops(c.op))
		for n := range len(kinds) + 1 {
			p := wantPlay(t, start, workers(ops(c.op)), times(n, 0))
			wantOnTheWay(t, start, ops(c.op), len(retsOf(p)), p.Table)
			if p.Ended[0] != (n == len(kinds)) || !slices.Equal(kindsOf(p), kinds[:n]) {
				t.Fatalf("%s, %v: behind %d picks: %v", c.text, c.op, n, p)
			}
		}
	}
}

// TestPlayOfEachPlace: one worker goes on up to each of its accesses, then the other one up to each of its own, and on from there.
func TestPlayOfEachPlace(t *testing.T) { // P22.3, P22.4
	again := 0
	for _, text := range []string{"(3:1 (2:0 (1:1=10) (2:1=20)) (4:0 (3:1=30) (4:1=40)))", "(4:1 (2:1 (1:1=10) (2:1=20)) (6:1 (4:1=40) (6:1=60)))", "(2:1 (1:2=10) (2:2=20))"} {
		start := below(t, text)
		for _, a := range ops(put(5, 7), ifAbsent(0, 7), del(1), del(4)) {
			for _, b := range ops(put(5, 8), put(2, 8), del(2), ifAbsent(3, 8)) {
				mine, _ := chroma.Kinds(start, ops(a))
				others, _ := chroma.Kinds(start, ops(b))
				for i := range len(mine) + 1 {
					for j := 0; j <= len(others); j += 1 + i%7 {
						picks := slices.Concat(times(i, 0), times(j, 1), times(200, i%2), times(200, 1-i%2))
						p := wantPlay(t, start, workers(ops(a), ops(b)), picks)
						if slices.Contains(p.Ended, false) {
							t.Fatalf("Play(%s, (%v, %v), %v): who ended: %v", text, a, b, picks, p.Ended)
						}
						if len(kindsOf(p)) > len(mine)+len(others) {
							again++
						}
					}
				}
			}
		}
	}
	if again < 1000 {
		t.Errorf("%d games in which one began anew: the test sees too little", again)
	}
}

func TestPlayByChance(t *testing.T) { // P22.3, P22.4, P22.6
	r := rand.New(rand.NewSource(5))
	pending, owing := 0, 0
	for i := range 3000 {
		start := someClean(r, r.Intn(12))
		if i%3 == 0 {
			start = someFit(t, r, r.Intn(12))
		}
		scripts := make([][]api.Op, 1+r.Intn(5))
		for range r.Intn(9) {
			w := r.Intn(len(scripts))
			scripts[w] = append(scripts[w], someOps(r, 1, 12)...)
		}
		p := wantPlay(t, start, scripts, somePicks(r, len(scripts), r.Intn(500)))
		if pendingOf(p.History) > 0 {
			pending++
		}
		if faults, _ := weigh.Violations(p.Table); i%3 != 0 && faults > 0 {
			owing++
		}
	}
	if pending < 300 || owing < 50 {
		t.Errorf("%d games with pending updates, %d with their violations: the test sees too little", pending, owing)
	}
}

// TestFinishByChance: whatever was picked first, all end, and nothing is owed.
func TestFinishByChance(t *testing.T) { // P22.3, P22.4, P22.5, P22.6
	r := rand.New(rand.NewSource(6))
	for range 300 {
		scripts := make([][]api.Op, 1+r.Intn(6))
		for w := range scripts {
			scripts[w] = someOps(r, r.Intn(5), 8)
		}
		start := someClean(r, r.Intn(10))
		p := wantAll(t, start, scripts, somePicks(r, len(scripts), r.Intn(300)))
		if faults, _ := weigh.Violations(p.Table); faults != 0 {
			t.Fatalf("%s: %d violations", keysOf(p.Table), faults)
		}
	}
}

// TestFinishInTurn: the picks that it makes, how many at most, and who has ended then.
func TestFinishInTurn(t *testing.T) { // P22.5
	start, scripts := below(t, "(2:1 (1:1=10) (2:1=20))"), workers(ops(put(3, 30)), nil, ops(del(1), put(4, 4)))
	whole := wantAll(t, start, scripts, []int{2, 2, 9, 0})
	for i, s := range whole.Steps[4:] {
		if s.Worker != i%3 {
			t.Fatalf("pick %d goes to %d", i, s.Worker)
		}
	}
	more := len(whole.Steps) - 4
	for most := range more + 3 {
		p, all, e := chroma.Finish(start, scripts, []int{2, 2, 9, 0}, most)
		made := min(most, more)
		if e != api.OK || all != (most >= more) || len(p.Steps) != 4+made || !slices.Equal(p.Steps, whole.Steps[:4+made]) {
			t.Fatalf("%d picks more: %v, %v, %d", most, p, all, e)
		}
		wantLaws(t, start, scripts, p)
		played := wantPlay(t, start, scripts, append([]int{2, 2, 9, 0}, workersOf(whole.Steps[4:4+made])...))
		if !slices.Equal(played.Table, p.Table) || !slices.EqualFunc(played.History, p.History, sameEvent) || !slices.Equal(played.Ended, p.Ended) {
			t.Fatalf("%d picks more: %v, want %v", most, p, played)
		}
	}
	p, all, e := chroma.Finish(start, workers(nil, nil), []int{0}, 50)
	if e != api.OK || !all || len(p.Steps) != 1 || len(p.History) != 0 {
		t.Errorf("nothing to do: %v, %v, %d", p, all, e)
	}
}

func workersOf(list []api.Step) []int {
	var picks []int
	for _, s := range list {
		picks = append(picks, s.Worker)
	}
	return picks
}

// TestFinishOfMany: 64 workers on one key, on neighbours, and on keys far apart.
func TestFinishOfMany(t *testing.T) { // P22.3, P22.4, P22.5
	for _, apart := range []int{0, 1, 7} {
		scripts := make([][]api.Op, api.MaxThreads)
		for w := range scripts {
			key := 100 - apart*w
			scripts[w] = ops(put(key, w), get(key), del(key), ifAbsent(key, -w))
		}
		p := wantAll(t, table.Empty(), scripts, nil)
		pairs, _ := table.Pairs(p.Table)
		wantTally(t, p.History, pairs)
		for _, e := range p.History {
			if apart > 0 && e.Return && e.Ret.Ok != (e.Op.Kind != api.Put) {
				t.Fatalf("keys of their own: %v", e)
			}
		}
		if apart > 0 && len(pairs) != len(scripts) {
			t.Errorf("keys of their own: %v", pairs)
		}
	}
}

// wantTally: of a history without pending operations, from an empty map: each key came as often as it went, or once more, and is there then.
func wantTally(t *testing.T, history []api.Event, pairs []api.Pair) {
	t.Helper()
	there := map[int]int{}
	for _, e := range history {
		switch k := e.Op.Kind; {
		case !e.Return:
		case k == api.Put && !e.Ret.Ok, k == api.PutIfAbsent && e.Ret.Ok:
			there[e.Op.Key]++
		case k == api.Delete && e.Ret.Ok:
			there[e.Op.Key]--
		}
	}
	for key, n := range there {
		_, has, _ := model.Find(pairs, key)
		if n != 0 && n != 1 || has != (n == 1) {
			t.Fatalf("key %d came %d times more than it went; is it there: %v", key, n, has)
		}
	}
}

// TestPlayAtEachLength: behind each pick of games with several workers; picks that do nothing change nothing.
func TestPlayAtEachLength(t *testing.T) { // P22.3, P22.4, P22.6
	r := rand.New(rand.NewSource(7))
	for range 8 {
		start := someClean(r, 6)
		scripts := workers(ops(put(1, 1), del(2)), ops(del(1), ifAbsent(2, 2)), ops(), ops(put(3, 3), put(4, 3)))
		picks := somePicks(r, len(scripts), 400)
		all := wantPlay(t, start, scripts, picks)
		for n := range picks {
			p := wantPlay(t, start, scripts, picks[:n])
			if len(p.History) > len(all.History) || !slices.EqualFunc(p.History, all.History[:len(p.History)], sameEvent) || !slices.Equal(p.Steps, all.Steps[:n]) {
				t.Fatalf("the first %d picks: %v, want a beginning of %v", n, p, all)
			}
		}
		thin := wantPlay(t, start, scripts, baton.Thin(all.Steps))
		if !slices.Equal(thin.Table, all.Table) || !slices.EqualFunc(thin.History, all.History, sameEvent) {
			t.Fatalf("without the picks that do nothing: %v, want %v", thin, all)
		}
	}
}

// TestFaultsThatNobodyIsNearTo: they stay, and do no harm.
func TestFaultsThatNobodyIsNearTo(t *testing.T) { // P22.3, P22.6
	start := below(t, "(5:1 (2:0 (1:3=10) (2:3=20)) (7:1 (6:1 (5:1=50) (6:1=60)) (8:1 (7:1=70) (8:1=80))))")
	for _, scripts := range [][][]api.Op{workers(ops(put(7, 1), put(9, 1), del(9))), workers(ops(get(1), put(1, 1)), ops(ifAbsent(2, 1), del(3)))} {
		p := wantAll(t, start, scripts, nil)
		if overs, _ := weigh.Overs(p.Table); len(overs) != 2 {
			t.Errorf("%v: %s", scripts, keysOf(p.Table))
		}
	}
	p := wantAll(t, start, workers(ops(put(0, 0)), ops(del(2))), nil)
	if faults, _ := weigh.Violations(p.Table); faults != 0 {
		t.Errorf("near to them: %s", keysOf(p.Table))
	}
}

func TestPlayWithoutWork(t *testing.T) { // P22.3, P22.6
	start := below(t, "(2:1 (1:2=10) (2:2=20))")
	p := wantPlay(t, shuffled(rand.New(rand.NewSource(8)), start), workers(nil, ops()), []int{0, 1, -1, 2, math.MaxInt})
	if len(p.History) != 0 || slices.Contains(p.Ended, false) || len(kindsOf(p)) != 0 || !slices.Equal(p.Table, start) {
		t.Errorf("no operations: %v", p)
	}
	p = wantPlay(t, start, workers(ops(put(2, 2))), []int{-1, 1, math.MinInt, 0})
	steps := []api.Step{{Worker: -1, Kind: -1}, {Worker: 1, Kind: -1}, {Worker: math.MinInt, Kind: -1}, {Worker: 0, Kind: api.Start}}
	if !slices.Equal(p.Steps, steps) || len(p.History) != 1 || p.Ended[0] || !slices.Equal(p.Table, start) {
		t.Errorf("the Start alone: %v", p)
	}
}

func TestPlayAtTheLimits(t *testing.T) { // P22.3, P22.4
	r := rand.New(rand.NewSource(9))
	crew := make([][]api.Op, api.MaxThreads)
	crew[0], crew[63] = someOps(r, api.MaxOps, mostKeys), someOps(r, api.MaxOps, 20)
	picks := make([]int, api.MaxPicks)
	for i := range picks {
		picks[i] = 63 * (i / 5 % 2)
	}
	p := wantPlay(t, wide(t, mostKeys), crew, picks)
	if slices.Contains(p.Ended, false) || len(p.History) != 4*api.MaxOps {
		t.Errorf("who ended: %v; %d events", p.Ended, len(p.History))
	}
	if _, all, e := chroma.Finish(table.Empty(), workers(nil), nil, api.MaxPicks); e != api.OK || !all {
		t.Errorf("as many picks as there may be: %v, %d", all, e)
	}
	if _, all, e := chroma.Finish(table.Empty(), workers(ops(get(1))), picks[1:], 1); e != api.OK || !all {
		t.Errorf("as many picks as there may be together: %v, %d", all, e)
	}
}

func TestPlayThatIsRefused(t *testing.T) { // P22.1, P22.5
	small, odd := below(t, "(2:1 (1:1=0) (2:1=0))"), below(t, "(2:1 (1:1=0) (2:2=0))")
	heavy, big := below(t, "(2:1 (1:1001=0) (2:1001=0))"), wide(t, mostKeys+1)
	bad, long, manyPicks := ops(api.Op{Kind: 99}), slices.Repeat(ops(get(1)), api.MaxOps+1), make([]int, api.MaxPicks+1)
	for _, c := range []struct {
		name    string
		start   []api.Node
		scripts [][]api.Op
		picks   []int
		e       api.Errno
	}{
		{"no script", small, nil, nil, api.ErrArg},
		{"no script, and all else wrong", nil, workers(), manyPicks, api.ErrArg},
		{"65 scripts", small, make([][]api.Op, api.MaxThreads+1), nil, api.ErrArg},
		{"65 scripts, and all else wrong", odd, append(make([][]api.Op, api.MaxThreads), append(long, bad...)), manyPicks, api.ErrArg},
		{"a long script", small, workers(nil, long), nil, api.ErrBig},
		{"a long script, no tree, no kind", odd, workers(bad, long), nil, api.ErrBig},
		{"many picks", small, workers(nil), manyPicks, api.ErrBig},
		{"many picks, no tree, no kind", nil, workers(bad), manyPicks, api.ErrBig},
		{"no nodes", nil, workers(nil), nil, api.ErrForm},
		{"more nodes than a table has", make([]api.Node, api.MaxNodes+1), workers(bad), nil, api.ErrBig},
		{"uneven", odd, workers(nil), nil, api.ErrForm},
		{"uneven, and no kind", odd, workers(bad), nil, api.ErrForm},
		{"no kind", small, workers(ops(get(1)), append(ops(put(1, 2)), bad...)), []int{0, 0, 1, 1}, api.ErrKind},
		{"no kind, and too heavy", heavy, workers(nil, bad), nil, api.ErrKind},
		{"no kind, and too many nodes", big, workers(nil, bad), nil, api.ErrKind},
		{"too heavy", heavy, workers(nil), nil, api.ErrBig},
		{"too many nodes", big, workers(nil), nil, api.ErrBig},
	} {
		if e := chroma.Check(c.start, c.scripts, c.picks); e != c.e {
			t.Errorf("%s: Check = %d, want %d", c.name, e, c.e)
		}
		if p, e := chroma.Play(c.start, c.scripts, c.picks); e != c.e || !isNothing(p) {
			t.Errorf("%s: Play = %v, %d, want %d", c.name, p, e, c.e)
		}
		if p, all, e := chroma.Finish(c.start, c.scripts, c.picks, 9); e != c.e || !isNothing(p) || all {
			t.Errorf("%s: Finish = %v, %v, %d, want %d", c.name, p, all, e, c.e)
		}
		if c.name == "too heavy" || c.name == "too many nodes" {
			continue // that is asked behind Finish's own
		}
		if _, _, e := chroma.Finish(c.start, c.scripts, c.picks, -1); e != c.e {
			t.Errorf("%s, and most below 0: Finish = %d, want %d", c.name, e, c.e)
		}
	}
	for _, kind := range noKinds() {
		if e := chroma.Check(small, workers(ops(get(1)), ops(api.Op{Kind: kind})), nil); e != api.ErrKind {
			t.Errorf("kind %d: Check = %d", kind, e)
		}
	}
	if e := chroma.Check(small, workers(ops(get(1), put(1, 1), ifAbsent(1, 1), del(1))), []int{7}); e != api.OK {
		t.Errorf("Check = %d", e)
	}
}

// TestMostThatIsRefused: what Finish asks of most, and when.
func TestMostThatIsRefused(t *testing.T) { // P22.5
	small, heavy, big := below(t, "(1:1=10)"), below(t, "(2:1 (1:1001=0) (2:1001=0))"), wide(t, mostKeys+1)
	picks := make([]int, api.MaxPicks)
	for _, c := range []struct {
		start []api.Node
		picks []int
		most  int
		e     api.Errno
	}{
		{small, nil, -1, api.ErrArg}, {small, nil, math.MinInt, api.ErrArg}, {small, picks, -1, api.ErrArg},
		{small, nil, api.MaxPicks + 1, api.ErrBig}, {small, nil, math.MaxInt, api.ErrBig}, {small, picks, 1, api.ErrBig}, {small, picks[:3], api.MaxPicks - 2, api.ErrBig}, {small, picks, math.MaxInt, api.ErrBig},
		{heavy, nil, -1, api.ErrArg}, {big, nil, -1, api.ErrArg}, {heavy, nil, 5, api.ErrBig}, {big, nil, 0, api.ErrBig},
		{small, nil, 0, api.OK}, {small, picks[:3], api.MaxPicks - 3, api.OK},
	} {
		p, all, e := chroma.Finish(c.start, workers(ops(get(1))), c.picks, c.most)
		if e != c.e || e != api.OK && (!isNothing(p) || all) {
			t.Errorf("%d picks, most %d: %v, %d, want %d", len(c.picks), c.most, all, e, c.e)
		}
	}
}
