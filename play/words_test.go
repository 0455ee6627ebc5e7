package play_test

import (
	"math"
	"math/rand"
	"slices"
	"testing"

	"larch/api"
	"larch/event"
	"larch/index"
	"larch/model"
	"larch/play"
	"larch/seq"
	"larch/table"
	"larch/weigh"
)

func get(key int) api.Op           { return api.Op{Kind: api.Get, Key: key} }
func put(key, val int) api.Op      { return api.Op{Kind: api.Put, Key: key, Val: val} }
func ifAbsent(key, val int) api.Op { return api.Op{Kind: api.PutIfAbsent, Key: key, Val: val} }
func del(key int) api.Op           { return api.Op{Kind: api.Delete, Key: key} }
func least() api.Op                { return api.Op{Kind: api.Min} }
func greatest() api.Op             { return api.Op{Kind: api.Max} }
func rangeOf(lo, hi int) api.Op    { return api.Op{Kind: api.Range, Key: lo, Hi: hi} }
func everything() api.Op           { return rangeOf(math.MinInt, math.MaxInt) }

func ops(list ...api.Op) []api.Op            { return list }
func threads(scripts ...[]api.Op) [][]api.Op { return scripts }
func times(n, thread int) []int              { return slices.Repeat([]int{thread}, n) }

// pairsOf: key, value, key, value, ..
func pairsOf(numbers ...int) []api.Pair {
	var pairs []api.Pair
	for i := 0; i+1 < len(numbers); i += 2 {
		pairs = append(pairs, api.Pair{Key: numbers[i], Val: numbers[i+1]})
	}
	return pairs
}

// game: its start, its scripts, its picks.
func game(start []api.Pair, scripts [][]api.Op, picks ...int) play.Game {
	return play.Game{Start: start, Scripts: scripts, Picks: picks}
}

// goOn: the game with picks behind its own.
func goOn(g play.Game, picks ...int) play.Game {
	g.Picks = slices.Concat(g.Picks, picks)
	return g
}

func pairsIn(t *testing.T, list []api.Node) []api.Pair {
	t.Helper()
	pairs, e := table.Pairs(list)
	if e != api.OK {
		t.Fatalf("%v has no pairs: %d", list, e)
	}
	return pairs
}

// grown: layer 19's table: of the empty crown, behind the Puts of start, and then the operations.
func grown(t *testing.T, start []api.Pair, script []api.Op) []api.Node {
	t.Helper()
	list, e := seq.Of(start)
	if e == api.OK {
		list, _, _, e = seq.Run(list, script)
	}
	if e != api.OK {
		t.Fatalf("layer 19 on %v, %v: %d", start, script, e)
	}
	return list
}

func sameRets(a, b []api.Ret) bool { return slices.EqualFunc(a, b, model.SameRet) }

func sameEvent(a, b api.Event) bool {
	return a.Thread == b.Thread && a.Return == b.Return && a.Op == b.Op && model.SameRet(a.Ret, b.Ret)
}

func sameHistory(a, b []api.Event) bool { return slices.EqualFunc(a, b, sameEvent) }

// isBeginning: of histories.
func isBeginning(a, b []api.Event) bool { return len(a) <= len(b) && sameHistory(a, b[:len(a)]) }

func samePlayed(a, b index.Played) bool {
	return slices.Equal(a.Steps, b.Steps) && slices.Equal(a.Ended, b.Ended) && sameHistory(a.History, b.History) && slices.Equal(a.Table, b.Table)
}

func sameGame(a, b play.Game) bool {
	sameOps := func(x, y []api.Op) bool { return slices.Equal(x, y) }
	return slices.Equal(a.Start, b.Start) && slices.EqualFunc(a.Scripts, b.Scripts, sameOps) && slices.Equal(a.Picks, b.Picks)
}

func isNoGame(g play.Game) bool { return g.Start == nil && g.Scripts == nil && g.Picks == nil }

func isNothing(p index.Played) bool {
	return p.Steps == nil && p.Ended == nil && p.History == nil && p.Table == nil
}

// pendingOf: how many updates are pending.
func pendingOf(h []api.Event) int {
	n := 0
	for _, e := range h {
		switch {
		case !model.Changes(e.Op.Kind):
		case e.Return:
			n--
		default:
			n++
		}
	}
	return n
}

// returnsOf: how many operations of the thread have returned.
func returnsOf(h []api.Event, thread int) int {
	n := 0
	for _, e := range h {
		if e.Return && e.Thread == thread {
			n++
		}
	}
	return n
}

func weightOf(list []api.Node) int {
	sum := 0
	for _, n := range list {
		sum += n.Weight
	}
	return sum
}

// wantTree: P25.4, of a table at which so many updates are pending.
func wantTree(t *testing.T, list []api.Node, pending int) {
	t.Helper()
	norm, _ := table.Norm(list)
	if e := seq.Check(list); e != api.OK || !slices.Equal(norm, list) {
		t.Fatalf("%v isn't fit, or isn't numbered from the root on: %d", list, e)
	}
	_, even, _ := weigh.Even(list)
	faults, e := weigh.Violations(list)
	if e != api.OK || !even || faults > pending {
		t.Fatalf("%v: even %v, %d violations, %d updates are pending", list, even, faults, pending)
	}
	if fits, _ := weigh.Fits(list); pending == 0 && !fits {
		t.Fatalf("%v doesn't fit", list)
	}
}

func wantRun(t *testing.T, g play.Game) index.Played {
	t.Helper()
	p, e := play.Run(g)
	if e != api.OK || len(p.Steps) != len(g.Picks) || len(p.Ended) != len(g.Scripts) || event.Check(p.History) != api.OK {
		t.Fatalf("Run(%v) = %v, %d", g, p, e)
	}
	return p
}

func wantFirst(t *testing.T, g play.Game, n int) play.Game {
	t.Helper()
	first, e := play.First(g, n)
	if e != api.OK {
		t.Fatalf("First(%v, %d): %d", g, n, e)
	}
	return first
}

func wantTables(t *testing.T, g play.Game) [][]api.Node {
	t.Helper()
	tables, e := play.Tables(g)
	if e != api.OK || len(tables) != len(g.Picks)+1 {
		t.Fatalf("Tables(%v): %d of them, %d", g, len(tables), e)
	}
	return tables
}

// noKinds are nobody's.
func noKinds() []int { return []int{0, -1, 10, 99, math.MinInt, math.MaxInt} }

// refusal is a game that can't be played, and the error.
type refusal struct {
	name string
	g    play.Game
	e    api.Errno
}

func refusals() []refusal {
	big, long, bad, many := make([]api.Pair, api.MaxOps+1), slices.Repeat(ops(least()), api.MaxOps+1), ops(api.Op{Kind: 10}), make([]int, api.MaxPicks+1)
	list := []refusal{
		{"nothing", play.Game{}, api.ErrArg},
		{"an empty list of scripts", game(nil, threads(), 0), api.ErrArg},
		{"65 scripts", game(nil, make([][]api.Op, api.MaxThreads+1)), api.ErrArg},
		{"no script, and many picks", game(nil, nil, many...), api.ErrArg},
		{"65 scripts, a long one, many picks", game(nil, append(make([][]api.Op, api.MaxThreads), long), many...), api.ErrArg},
		{"no kind", game(nil, threads(nil, append(ops(least()), bad...)), 1, 1), api.ErrKind},
		{"no kind, and all else wrong", game(big, append(make([][]api.Op, api.MaxThreads), append(slices.Clone(long), bad...)), many...), api.ErrKind},
		{"1001 pairs", game(big, threads(nil)), api.ErrBig},
		{"1001 pairs, and no script", game(big, nil), api.ErrBig},
		{"1001 pairs, and 65 scripts", game(big, make([][]api.Op, api.MaxThreads+1)), api.ErrBig},
		{"1001 operations", game(nil, threads(nil, long)), api.ErrBig},
		{"many picks", game(nil, threads(nil), many...), api.ErrBig},
	}
	for _, kind := range noKinds() {
		list = append(list, refusal{"a kind that is none", game(nil, threads(ops(get(1)), ops(api.Op{Kind: kind})), 0), api.ErrKind})
	}
	return list
}

// someKey: a small one, or one of the ends.
func someKey(r *rand.Rand) int {
	if r.Intn(12) == 0 {
		return []int{math.MinInt, math.MinInt + 1, math.MaxInt - 1, math.MaxInt}[r.Intn(4)]
	}
	return r.Intn(12) - 4
}

// someOps: of all nine kinds.
func someOps(r *rand.Rand, n int) []api.Op {
	list := make([]api.Op, n)
	for i := range list {
		list[i] = api.Op{Kind: []int{1, 2, 2, 2, 3, 3, 4, 4, 4, 5, 6, 7, 8, 9}[r.Intn(14)], Key: someKey(r), Val: r.Intn(5), Hi: someKey(r)}
	}
	return list
}

// somePairs: keys in any order, some of them twice.
func somePairs(r *rand.Rand, most int) []api.Pair {
	list := make([]api.Pair, r.Intn(most+1))
	for i := range list {
		list[i] = api.Pair{Key: someKey(r), Val: r.Intn(5)}
	}
	return list
}

// somePicks: now one access of a thread, now many; here and there one that does nothing.
func somePicks(r *rand.Rand, crew, n int) []int {
	picks := make([]int, 0, n)
	for len(picks) < n {
		picks = append(picks, times(1+r.Intn(1<<r.Intn(7)), r.Intn(crew))...)
		if r.Intn(10) == 0 {
			picks = append(picks, []int{-1, crew, math.MinInt, math.MaxInt}[r.Intn(4)])
		}
	}
	return picks[:n]
}

// someGame: up to so many threads, with up to so many operations each, and so many picks.
func someGame(r *rand.Rand, crew, script, picks int) play.Game {
	g := play.Game{Start: somePairs(r, 12), Scripts: make([][]api.Op, 1+r.Intn(crew))}
	for thread := range g.Scripts {
		g.Scripts[thread] = someOps(r, r.Intn(script+1))
	}
	g.Picks = somePicks(r, len(g.Scripts), picks)
	return g
}

// modelled: what layer 6 answers, and what it leaves.
func modelled(start []api.Pair, script []api.Op) ([]api.Ret, []api.Pair) {
	left, rets, _ := model.Run(model.Of(start), script)
	return rets, left
}
