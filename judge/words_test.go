package judge_test

import (
	"math"
	"math/rand"
	"slices"
	"testing"

	"larch/api"
	"larch/event"
	"larch/model"
	"larch/play"
	"larch/table"
)

func get(key int) api.Op           { return api.Op{Kind: api.Get, Key: key} }
func put(key, val int) api.Op      { return api.Op{Kind: api.Put, Key: key, Val: val} }
func ifAbsent(key, val int) api.Op { return api.Op{Kind: api.PutIfAbsent, Key: key, Val: val} }
func del(key int) api.Op           { return api.Op{Kind: api.Delete, Key: key} }
func after(key int) api.Op         { return api.Op{Kind: api.Successor, Key: key} }
func before(key int) api.Op        { return api.Op{Kind: api.Predecessor, Key: key} }
func least() api.Op                { return api.Op{Kind: api.Min} }
func greatest() api.Op             { return api.Op{Kind: api.Max} }
func rangeOf(lo, hi int) api.Op    { return api.Op{Kind: api.Range, Key: lo, Hi: hi} }
func everything() api.Op           { return rangeOf(math.MinInt, math.MaxInt) }

func ops(list ...api.Op) []api.Op            { return list }
func threads(scripts ...[]api.Op) [][]api.Op { return scripts }
func times(n, thread int) []int              { return slices.Repeat([]int{thread}, n) }
func row(events ...api.Event) []api.Event    { return events }
func ok(val int) api.Ret                     { return api.Ret{Ok: true, Val: val} }
func no() api.Ret                            { return api.Ret{} }

func invoked(thread int, o api.Op) api.Event { return api.Event{Thread: thread, Op: o} }

func answered(thread int, o api.Op, ret api.Ret) api.Event {
	return api.Event{Thread: thread, Return: true, Op: o, Ret: ret}
}

// done: an operation of thread 0 that nothing overlaps.
func done(o api.Op, ret api.Ret) []api.Event { return row(invoked(0, o), answered(0, o, ret)) }

// pairsOf: key, value, key, value, ..
func pairsOf(numbers ...int) []api.Pair {
	var pairs []api.Pair
	for i := 0; i+1 < len(numbers); i += 2 {
		pairs = append(pairs, api.Pair{Key: numbers[i], Val: numbers[i+1]})
	}
	return pairs
}

func callsOf(h []api.Event) []event.Call {
	calls, _ := event.Calls(h)
	return calls
}

func sameEvent(a, b api.Event) bool {
	return a.Thread == b.Thread && a.Return == b.Return && a.Op == b.Op && model.SameRet(a.Ret, b.Ret)
}

// treeOf: a table by the text of the tree of the keys; of an empty one the empty map's.
func treeOf(t *testing.T, keys string) []api.Node {
	t.Helper()
	if keys == "" {
		return table.Empty()
	}
	return read(t, "(inf:1 (inf:1 "+keys+" (inf:1)) (inf:1))")
}

func read(t *testing.T, text string) []api.Node {
	t.Helper()
	list, e := table.Read(text)
	if e != api.OK {
		t.Fatalf("%s can't be read", text)
	}
	return list
}

// wrongHistory is one that is none, and the error.
type wrongHistory struct {
	name string
	h    []api.Event
	e    api.Errno
}

func wrongHistories() []wrongHistory {
	long := slices.Repeat(done(get(1), no()), event.MaxEvents/2)
	return []wrongHistory{
		{"a return alone", row(answered(0, get(1), no())), api.ErrForm},
		{"two invocations", row(invoked(0, get(1)), invoked(0, get(1))), api.ErrForm},
		{"another operation's return", row(invoked(0, get(1)), answered(0, get(2), no())), api.ErrForm},
		{"an invocation with an answer", row(api.Event{Op: get(1), Ret: ok(1)}), api.ErrForm},
		{"thread 64", row(invoked(64, get(1))), api.ErrForm},
		{"thread -1", row(invoked(-1, get(1))), api.ErrForm},
		{"kind 0", row(invoked(0, api.Op{})), api.ErrForm},
		{"kind 10", row(invoked(0, api.Op{Kind: 10})), api.ErrForm},
		{"nine operations, and a return too many", append(slices.Repeat(done(get(1), no()), 9), answered(0, get(1), no())), api.ErrForm},
		{"a Min, and a return too many", append(done(least(), no()), answered(0, get(1), no())), api.ErrForm},
		{"100001 events", append(slices.Clone(long), invoked(0, get(1))), api.ErrBig},
		{"100001 events that are no history", append(slices.Clone(long), answered(0, get(1), no())), api.ErrBig},
	}
}

// someKey: a small one, or one of the ends.
func someKey(r *rand.Rand) int {
	if r.Intn(15) == 0 {
		return []int{math.MinInt, math.MaxInt}[r.Intn(2)]
	}
	return r.Intn(4)
}

func somePairs(r *rand.Rand, most int) []api.Pair {
	list := make([]api.Pair, r.Intn(most+1))
	for i := range list {
		list[i] = api.Pair{Key: someKey(r), Val: r.Intn(3)}
	}
	return list
}

// someOp: of a kind up to last.
func someOp(r *rand.Rand, last int) api.Op {
	return api.Op{Kind: 1 + r.Intn(last), Key: someKey(r), Val: r.Intn(3), Hi: someKey(r)}
}

// someRet: what no map would answer, often.
func someRet(r *rand.Rand) api.Ret {
	ret := api.Ret{Ok: r.Intn(2) == 0}
	if r.Intn(2) == 0 {
		ret.Val = r.Intn(3)
	}
	if r.Intn(4) == 0 {
		ret.Key = someKey(r)
	}
	if r.Intn(6) == 0 {
		ret.Pairs = somePairs(r, 3)
	}
	return ret
}

// someHistory: of up to so many operations. What they answer is right at some place between their two events, but, with wrong, for some of them.
func someHistory(r *rand.Rand, start []api.Pair, most, last int, wrong bool) []api.Event {
	const crew = 4
	var h []api.Event
	now := model.Of(start)
	var open [crew]bool
	var did [crew]bool
	var op [crew]api.Op
	var ret [crew]api.Ret
	for begun := 0; begun < most || r.Intn(10) > 0; {
		thread := r.Intn(crew)
		switch {
		case !open[thread] && begun < most:
			begun++
			open[thread], did[thread], op[thread] = true, false, someOp(r, last)
			h = append(h, invoked(thread, op[thread]))
		case open[thread] && !did[thread]:
			did[thread] = true
			now, ret[thread], _ = model.Do(now, op[thread])
			if wrong && r.Intn(3) == 0 {
				ret[thread] = someRet(r)
			}
		case open[thread]:
			open[thread] = false
			h = append(h, answered(thread, op[thread], ret[thread]))
		}
	}
	return h
}

// someGame: up to so many threads, with up to so many operations each, and so many picks.
func someGame(r *rand.Rand, crew, script, picks int) play.Game {
	g := play.Game{Start: somePairs(r, 8), Scripts: make([][]api.Op, 1+r.Intn(crew))}
	for i := range g.Start {
		g.Start[i].Key += r.Intn(9)
	}
	for thread := range g.Scripts {
		for range r.Intn(script + 1) {
			o := someOp(r, api.Range)
			o.Key += r.Intn(9)
			g.Scripts[thread] = append(g.Scripts[thread], o)
		}
	}
	for len(g.Picks) < picks {
		g.Picks = append(g.Picks, times(1+r.Intn(1<<r.Intn(7)), r.Intn(len(g.Scripts)+1))...)
	}
	g.Picks = g.Picks[:picks]
	return g
}

func runOf(t *testing.T, g play.Game) ([]api.Event, []api.Node) {
	t.Helper()
	p, e := play.Run(g)
	if e != api.OK {
		t.Fatalf("Run(%v): %d", g, e)
	}
	return p.History, p.Table
}

func pairsIn(t *testing.T, list []api.Node) []api.Pair {
	t.Helper()
	pairs, e := table.Pairs(list)
	if e != api.OK {
		t.Fatalf("%v has no pairs: %d", list, e)
	}
	return pairs
}
