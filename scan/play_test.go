package scan_test

import (
	"math"
	"math/rand"
	"slices"
	"testing"

	"larch/api"
	"larch/baton"
	"larch/model"
	"larch/scan"
	"larch/search"
	"larch/seq"
	"larch/table"
	"larch/weigh"
)

func TestPlayByExamples(t *testing.T) { // P23.2, P23.3
	a := below(t, "(7:1 (5:1=50) (7:1=70))")
	p := wantPlay(t, a, workers(ops(rangeOf(0, 9))), times(1000, 0))
	want := []api.Event{{Op: rangeOf(0, 9)}, {Return: true, Op: rangeOf(0, 9), Ret: api.Ret{Ok: true, Pairs: pairsOf(5, 50, 7, 70)}}}
	if !p.Ended[0] || !slices.EqualFunc(p.History, want, sameEvent) || !slices.Equal(p.Table, a) {
		t.Errorf("example 3: %v", p)
	}
	p = wantPlay(t, a, workers(ops(rangeOf(0, 9)), ops(put(6, 60))), nil)
	if len(p.History) != 0 || slices.Contains(p.Ended, true) || !slices.Equal(p.Table, a) {
		t.Errorf("example 4: %v", p)
	}
	if p, e := scan.Play(a, nil, nil); e != api.ErrArg || !isNothing(p) {
		t.Errorf("example 5: %v, %d", p, e)
	}
}

// TestPlayOfOne: as the model and layer 19, one operation behind the other; fewer picks give a beginning.
func TestPlayOfOne(t *testing.T) { // P23.2
	r := rand.New(rand.NewSource(6))
	for range 300 {
		leaves := r.Intn(9)
		start, script := someFit(t, r, leaves), someOps(r, 1+r.Intn(8), 2*leaves+2, slices.Concat(changing, reading)...)
		left, want, _ := model.Run(pairsIn(t, start), script)
		list, _, _, _ := seq.Run(start, script)
		p := wantPlay(t, start, workers(script), times(5000, 0))
		if !p.Ended[0] || !sameRets(retsOf(p), want) || !slices.Equal(pairsIn(t, p.Table), left) || !slices.Equal(p.Table, list) {
			t.Fatalf("Play(%s, %v) of one worker = %v, want %v, %s", keysOf(start), script, p, want, keysOf(list))
		}
		n := r.Intn(len(kindsOf(p)))
		first := wantPlay(t, start, workers(script), times(n, 0))
		if first.Ended[0] || !slices.Equal(first.Steps, p.Steps[:n]) || !slices.EqualFunc(first.History, p.History[:len(first.History)], sameEvent) {
			t.Fatalf("%d picks: %v", n, first)
		}
	}
}

// TestPlayOfOneRead: Start, and then as many picks as Tries says; the invocation is noted in the first, the return in the last of them.
func TestPlayOfOneRead(t *testing.T) { // P23.2, P23.5
	for _, list := range [][]api.Node{table.Empty(), below(t, "(5:1=50)"), below(t, "(7:1 (5:2=50) (7:2=70))")} {
		for _, o := range ops(everything(), least(), greatest(), after(5), before(7), get(5), rangeOf(9, 0), rangeOf(5, 5)) {
			n, _ := scan.Tries(list, o)
			for k := range n + 3 {
				p := wantPlay(t, list, workers(ops(o)), times(k, 0))
				events := 2
				if k <= n {
					events = min(k, 1)
				}
				if len(p.History) != events || p.Ended[0] != (k > n) || len(kindsOf(p)) != min(k, n+1) || k > n && !p.Steps[n].Ended {
					t.Fatalf("%s, %v, which takes %d: behind %d picks %v", keysOf(list), o, n, k, p)
				}
			}
		}
	}
}

// TestPlayOfEachPlace: a read goes on up to each of its accesses, then a change up to each of its own, and on from there.
func TestPlayOfEachPlace(t *testing.T) { // P23.3
	again := map[int]int{}
	for _, text := range []string{"(3:1 (2:0 (1:1=10) (2:1=20)) (4:0 (3:1=30) (4:1=40)))", "(2:1 (1:2=10) (2:2=20))", "(2:1=20)", ""} {
		start := below(t, text)
		for _, o := range ops(everything(), rangeOf(2, 3), least(), greatest(), after(2), before(3), get(2)) {
			for _, change := range ops(put(2, 7), ifAbsent(5, 7), del(2), del(4)) {
				mine, _ := scan.Tries(start, o)
				alone := wantPlay(t, start, workers(ops(change)), times(500, 0))
				others := len(kindsOf(alone))
				for i := range mine + 2 {
					for j := 0; j <= others; j += 1 + i%5 {
						picks := slices.Concat(times(i, 0), times(j, 1), times(400, i%2), times(400, 1-i%2))
						p := wantPlay(t, start, workers(ops(o), ops(change)), picks)
						if slices.Contains(p.Ended, false) {
							t.Fatalf("Play(%s, (%v, %v), %v): who ended: %v", text, o, change, picks, p.Ended)
						}
						if len(kindsOf(p)) > mine+1+others {
							again[o.Kind]++
						}
					}
				}
			}
		}
	}
	for _, kind := range []int{api.Range, api.Min, api.Max, api.Successor, api.Predecessor} {
		if again[kind] < 100 {
			t.Errorf("kind %d: %d games in which one began anew: the test sees too little", kind, again[kind])
		}
	}
}

func TestPlayByChance(t *testing.T) { // P23.3, P23.4
	r := rand.New(rand.NewSource(7))
	pending, answered := 0, 0
	for i := range 4000 {
		start := someFit(t, r, r.Intn(10))
		kinds := slices.Concat(changing, changing, reading)
		if i%4 == 0 {
			kinds = reading
		}
		scripts := make([][]api.Op, 1+r.Intn(5))
		for range r.Intn(search.MaxSearch + 1) {
			w := r.Intn(len(scripts))
			scripts[w] = append(scripts[w], someOps(r, 1, 18, kinds...)...)
		}
		p := wantPlay(t, start, scripts, somePicks(r, len(scripts), r.Intn(600)))
		returns := len(retsOf(p))
		pending += len(p.History) - 2*returns
		answered += returns
	}
	if pending < 1000 || answered < 4000 {
		t.Errorf("%d pending, %d answered: the test sees too little", pending, answered)
	}
}

// TestPlayOfReadsAlone: many workers that read, whatever the picks: the answers are the model's, and nothing changes.
func TestPlayOfReadsAlone(t *testing.T) { // P23.4
	r := rand.New(rand.NewSource(8))
	for range 200 {
		start := someFit(t, r, r.Intn(12))
		scripts := make([][]api.Op, 1+r.Intn(8))
		for w := range scripts {
			scripts[w] = someOps(r, r.Intn(12), 24, reading...)
		}
		p := wantPlay(t, start, scripts, somePicks(r, len(scripts), r.Intn(3000)))
		for _, e := range p.History {
			if !e.Return {
				continue
			}
			if fits, _ := model.Fits(pairsIn(t, start), e.Op, e.Ret); !fits {
				t.Fatalf("%s: %v", keysOf(start), e)
			}
		}
		for _, s := range p.Steps {
			if s.Kind > api.Load {
				t.Fatalf("%v: %v", scripts, s)
			}
		}
	}
}

// TestPlayAtEachLength: behind each pick of games with several workers; picks that do nothing change nothing.
func TestPlayAtEachLength(t *testing.T) { // P23.3
	r := rand.New(rand.NewSource(9))
	for range 8 {
		start := someFit(t, r, 6)
		scripts := workers(ops(put(1, 1), everything()), ops(del(2), least(), after(2)), ops(), ops(rangeOf(0, 5), put(3, 3), before(9)))
		picks := somePicks(r, len(scripts), 500)
		all := wantPlay(t, start, scripts, picks)
		for n := range picks {
			p := wantPlay(t, start, scripts, picks[:n])
			if len(p.History) > len(all.History) || !slices.EqualFunc(p.History, all.History[:len(p.History)], sameEvent) || !slices.Equal(p.Steps, all.Steps[:n]) {
				t.Fatalf("the first %d picks: %v, want a beginning of %v", n, p, all)
			}
		}
		thin := wantPlay(t, start, scripts, baton.Thin(all.Steps))
		if !slices.Equal(thin.Table, all.Table) || !slices.EqualFunc(thin.History, all.History, sameEvent) {
			t.Fatalf("without the picks that do nothing: %v, want %v", thin, all)
		}
	}
}

// TestPlayOfMany: 64 workers, half of which read.
func TestPlayOfMany(t *testing.T) { // P23.3
	start := wide(t, 40)
	scripts := make([][]api.Op, api.MaxThreads)
	for w := range scripts {
		scripts[w] = ops(everything(), after(w), least())
		if w%2 == 1 {
			scripts[w] = ops(put(100+w, w), del(w/2), ifAbsent(200+w, w))
		}
	}
	picks, _ := baton.Robin(api.MaxThreads, 15000)
	p := wantPlay(t, start, scripts, picks)
	if slices.Contains(p.Ended, false) || len(p.History) != 6*api.MaxThreads {
		t.Errorf("who ended: %v; %d events", p.Ended, len(p.History))
	}
	for _, e := range p.History {
		if e.Return && e.Op.Kind == api.Range && model.Check(e.Ret.Pairs) != api.OK {
			t.Errorf("Range = %v", e.Ret.Pairs)
		}
	}
	if faults, _ := weigh.Violations(p.Table); faults != 0 || len(pairsIn(t, p.Table)) != 40-32+2*32 {
		t.Errorf("%d violations; %v", faults, pairsIn(t, p.Table))
	}
}

// mostKeys: a table with 10000 nodes at most has so many.
const mostKeys = (10000 - 3) / 2

func TestPlayAtTheLimits(t *testing.T) { // P23.3, P23.4
	r := rand.New(rand.NewSource(10))
	crew := make([][]api.Op, api.MaxThreads)
	crew[0], crew[63] = someOps(r, api.MaxOps, mostKeys, api.Put, api.Delete, api.Get), someOps(r, api.MaxOps, mostKeys, api.Successor, api.Predecessor, api.Min, api.Max, api.Get)
	picks := make([]int, api.MaxPicks)
	for i := range picks {
		picks[i] = 63 * (i / 5 % 2)
	}
	p := wantPlay(t, wide(t, mostKeys), crew, picks)
	if slices.Contains(p.Ended, false) || len(p.History) != 4*api.MaxOps {
		t.Errorf("who ended: %v; %d events", p.Ended, len(p.History))
	}
	heavy := below(t, "(2:1 (1:1000=10) (2:1000=20))")
	p = wantPlay(t, heavy, workers(ops(everything(), least())), times(200, 0))
	if !p.Ended[0] {
		t.Errorf("weights of 1000: %v", p)
	}
	p = wantPlay(t, wide(t, mostKeys), workers(ops(everything())), times(60000, 0))
	if !p.Ended[0] || len(p.History[1].Ret.Pairs) != mostKeys {
		t.Errorf("all keys of a wide table: ended %v", p.Ended)
	}
}

func TestPlayWithoutWork(t *testing.T) { // P23.3, P23.4
	start := below(t, "(2:1 (1:2=10) (2:2=20))")
	p := wantPlay(t, shuffled(rand.New(rand.NewSource(11)), start), workers(nil, ops()), []int{0, 1, -1, 2, math.MaxInt})
	if len(p.History) != 0 || slices.Contains(p.Ended, false) || len(kindsOf(p)) != 0 || !slices.Equal(p.Table, start) {
		t.Errorf("no operations: %v", p)
	}
	p = wantPlay(t, start, workers(ops(rangeOf(2, 1), rangeOf(3, 1))), []int{-1, 1, math.MinInt, 0, 0})
	steps := []api.Step{{Worker: -1, Kind: -1}, {Worker: 1, Kind: -1}, {Worker: math.MinInt, Kind: -1}, {Kind: api.Start}, {Kind: api.Start, Ended: true}}
	if !slices.Equal(p.Steps, steps) || !sameRets(retsOf(p), []api.Ret{{Ok: true}, {Ok: true}}) {
		t.Errorf("Ranges without an access: %v", p)
	}
}

func TestPlayThatIsRefused(t *testing.T) { // P23.3
	small, odd := below(t, "(2:1 (1:1=0) (2:1=0))"), below(t, "(2:1 (1:1=0) (2:2=0))")
	heavy, big := below(t, "(2:1 (1:1001=0) (2:1001=0))"), wide(t, mostKeys+1)
	bad, long, manyPicks := ops(api.Op{Kind: 10}), slices.Repeat(ops(least()), api.MaxOps+1), make([]int, api.MaxPicks+1)
	for _, c := range []struct {
		name    string
		start   []api.Node
		scripts [][]api.Op
		picks   []int
		e       api.Errno
	}{
		{"no script", small, nil, nil, api.ErrArg},
		{"no script, and all else wrong", nil, workers(), manyPicks, api.ErrArg},
		{"65 scripts", small, make([][]api.Op, api.MaxThreads+1), nil, api.ErrArg},
		{"65 scripts, and all else wrong", odd, append(make([][]api.Op, api.MaxThreads), append(long, bad...)), manyPicks, api.ErrArg},
		{"a long script", small, workers(nil, long), nil, api.ErrBig},
		{"a long script, no tree, no kind", nil, workers(bad, long), nil, api.ErrBig},
		{"many picks", small, workers(nil), manyPicks, api.ErrBig},
		{"many picks, no tree, no kind", nil, workers(bad), manyPicks, api.ErrBig},
		{"no nodes", nil, workers(nil), nil, api.ErrForm},
		{"more nodes than a table has", make([]api.Node, api.MaxNodes+1), workers(bad), nil, api.ErrBig},
		{"no crown", []api.Node{{Key: 1, Weight: 1, Left: -1, Right: -1}}, workers(nil), nil, api.ErrForm},
		{"not ordered", below(t, "(1:1 (1:1=0) (2:1=0))"), workers(nil), nil, api.ErrForm},
		{"not sound", below(t, "(2:2 (1:1=0) (2:1=0))"), workers(nil), nil, api.ErrForm},
		{"uneven", odd, workers(nil), nil, api.ErrForm},
		{"uneven, and no kind", odd, workers(bad), nil, api.ErrForm},
		{"no kind", small, workers(ops(least()), append(ops(put(1, 2)), bad...)), []int{0, 0, 1, 1}, api.ErrKind},
		{"no kind, and too heavy", heavy, workers(nil, bad), nil, api.ErrKind},
		{"no kind, and too many nodes", big, workers(nil, bad), nil, api.ErrKind},
		{"too heavy", heavy, workers(nil), nil, api.ErrBig},
		{"too many nodes", big, workers(nil), nil, api.ErrBig},
	} {
		if p, e := scan.Play(c.start, c.scripts, c.picks); e != c.e || !isNothing(p) {
			t.Errorf("%s: Play = %v, %d, want %d", c.name, p, e, c.e)
		}
	}
	for _, kind := range noKinds() {
		if p, e := scan.Play(small, workers(ops(least()), ops(api.Op{Kind: kind})), times(9, 0)); e != api.ErrKind || !isNothing(p) {
			t.Errorf("kind %d: Play = %v, %d", kind, p, e)
		}
	}
}
