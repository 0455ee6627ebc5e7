package judge

import (
	"math/rand"
	"slices"
	"testing"

	"larch/api"
	"larch/play"
	"larch/table"
)

// No game has a verdict that isn't all true: what each of its parts sees is asked here of tables and histories of no game.

func treeOf(t *testing.T, keys string) []api.Node {
	t.Helper()
	list, e := table.Read("(inf:1 (inf:1 " + keys + " (inf:1)) (inf:1))")
	if e != api.OK {
		t.Fatalf("%s can't be read", keys)
	}
	return list
}

// chain: of so many keys, each inner node's left child a leaf, all weights 1.
func chain(n int) []api.Node {
	list := []api.Node{{Inf: 1, Weight: 1, Left: 1, Right: 3}, {Inf: 1, Weight: 1, Left: 4, Right: 2}, {Inf: 1, Weight: 1, Left: -1, Right: -1}, {Inf: 1, Weight: 1, Left: -1, Right: -1}}
	for key := 1; key < n; key++ {
		at := len(list)
		list = append(list, api.Node{Key: key + 1, Weight: 1, Left: at + 1, Right: at + 2}, api.Node{Key: key, Weight: 1, Left: -1, Right: -1})
	}
	return append(list, api.Node{Key: n, Weight: 1, Left: -1, Right: -1})
}

func TestVerdictsThatAreFalse(t *testing.T) { // P26.4
	put, other := api.Op{Kind: api.Put, Key: 1, Val: 10}, api.Op{Kind: api.Delete, Key: 7}
	get := api.Op{Kind: api.Get, Key: 1}
	begin := []api.Event{{Op: put}}
	two := append(slices.Clone(begin), api.Event{Thread: 1, Op: other})
	starts := []api.Step{{Worker: 0}, {Worker: 1}}
	empty, one, pair := table.Empty(), treeOf(t, "(1:1=10)"), treeOf(t, "(2:1 (1:1=0) (2:1=0))")
	heavy, red := treeOf(t, "(2:1 (1:2=0) (2:2=0))"), treeOf(t, "(2:1 (1:1=0) (3:0 (2:1=0) (4:0 (3:1=0) (4:1=0))))")
	uneven, twisted := treeOf(t, "(2:1 (1:1=0) (2:0=0))"), treeOf(t, "(2:1 (2:1=0) (1:1=0))")
	told := func(val int) []api.Event {
		return []api.Event{{Op: get}, {Op: get, Return: true, Ret: api.Ret{Ok: true, Val: val}}}
	}
	odd := []api.Event{{Op: get}, {Op: get, Return: true, Ret: api.Ret{Key: 5}}}
	yes := Verdict{true, true, true, true, true, true, true}
	for i, c := range []struct {
		start  []api.Pair
		tables [][]api.Node
		steps  []api.Step
		h      []api.Event
		want   Verdict
	}{
		{nil, [][]api.Node{empty}, nil, nil, yes},
		{nil, [][]api.Node{empty, one}, starts[:1], begin, yes},
		{pairsOf(1, 1, 2, 2), [][]api.Node{heavy, heavy, heavy}, starts, two, Verdict{true, false, true, true, true, true, true}},
		{pairsOf(1, 1), [][]api.Node{one, one, red}, starts, two, Verdict{true, true, true, false, false, true, true}},
		{nil, [][]api.Node{empty, pair}, starts[:1], begin, Verdict{true, true, true, false, false, true, true}},
		{pairsOf(1, 0, 2, 0), [][]api.Node{uneven}, nil, nil, Verdict{false, true, true, true, true, true, true}},
		{pairsOf(1, 0, 2, 0), [][]api.Node{twisted}, nil, nil, Verdict{false, true, true, true, true, true, true}},
		{keysTo(9), [][]api.Node{chain(9)}, nil, nil, Verdict{false, true, true, true, true, true, true}},
		{keysTo(12), [][]api.Node{chain(12)}, nil, nil, Verdict{false, true, false, true, true, true, true}},
		{keysTo(12), [][]api.Node{chain(12), chain(12)}, starts[:1], begin, Verdict{false, true, false, true, true, true, true}},
		{nil, [][]api.Node{one}, nil, nil, Verdict{true, true, true, true, false, true, true}},
		{pairsOf(1, 10), [][]api.Node{one, one}, starts[:1], told(11), Verdict{true, true, true, true, true, false, true}},
		{pairsOf(1, 10), [][]api.Node{one, one}, starts[:1], told(10), yes},
		{pairsOf(1, 10), [][]api.Node{one, one}, starts[:1], odd, Verdict{true, true, true, true, true, true, false}},
	} {
		if v := verdictOn(c.start, c.tables, c.steps, c.h); v != c.want {
			t.Errorf("row %d: %v, want %v", i, v, c.want)
		}
	}
}

// TestVerdictsBetween: a debt, a height or a tree counts at the moment at which it is, also in the midst.
func TestVerdictsBetween(t *testing.T) { // P26.4
	op := api.Op{Kind: api.Put, Key: 1, Val: 0}
	h := []api.Event{{Op: op}, {Op: op, Return: true, Ret: api.Ret{Ok: true}}}
	steps := []api.Step{{Kind: api.Start}, {Kind: api.Load}, {Kind: api.Load, Ended: true}, {Worker: 3, Kind: -1}}
	pairs := pairsOf(1, 0, 2, 0)
	fine, over := treeOf(t, "(2:1 (1:1=0) (2:1=0))"), treeOf(t, "(2:1 (1:2=0) (2:2=0))") // over has two violations
	for k := range 5 {
		tables := slices.Repeat([][]api.Node{fine}, 5)
		tables[k] = over
		if v := verdictOn(pairs, tables, steps, h); v.Debts || !v.Trees || !v.Heights || !v.Single {
			t.Errorf("two violations at %d: %v", k, v)
		}
	}
	for k := range 5 {
		tables := slices.Repeat([][]api.Node{fine}, 5)
		tables[k] = chain(12)
		isPending := k == 1 || k == 2
		if v := verdictOn(pairs, tables, steps, h); v.Heights != isPending || v.Trees || v.Single {
			t.Errorf("a tall tree at %d: %v", k, v)
		}
	}
	three, owing := treeOf(t, "(2:1 (1:1=0) (3:0 (2:1=0) (3:1=0)))"), treeOf(t, "(2:1 (1:1=0) (3:0 (2:1=0) (4:0 (3:1=0) (4:1=0))))") // owing has one
	for k := range 5 {
		tables := slices.Repeat([][]api.Node{three}, 5)
		tables[k] = owing
		isPending := k == 1 || k == 2
		if v := verdictOn(pairsOf(1, 0, 2, 0, 3, 0), tables, steps, h); v.Debts != isPending || !v.Trees || !v.Single {
			t.Errorf("one violation at %d: %v", k, v)
		}
	}
}

func pairsOf(numbers ...int) []api.Pair {
	var pairs []api.Pair
	for i := 0; i+1 < len(numbers); i += 2 {
		pairs = append(pairs, api.Pair{Key: numbers[i], Val: numbers[i+1]})
	}
	return pairs
}

func keysTo(n int) []api.Pair {
	var pairs []api.Pair
	for key := 1; key <= n; key++ {
		pairs = append(pairs, api.Pair{Key: key})
	}
	return pairs
}

// TestBeginnings: as many events as a play of so many picks has.
func TestBeginnings(t *testing.T) { // P26.4
	r := rand.New(rand.NewSource(16))
	for range 30 {
		g := play.Game{Start: keysTo(r.Intn(5)), Scripts: make([][]api.Op, 1+r.Intn(4))}
		for thread := range g.Scripts {
			for range r.Intn(6) {
				g.Scripts[thread] = append(g.Scripts[thread], api.Op{Kind: 1 + r.Intn(9), Key: r.Intn(6), Hi: r.Intn(6)})
			}
		}
		for range 60 {
			g.Picks = append(g.Picks, slices.Repeat([]int{r.Intn(6) - 1}, 1+r.Intn(20))...)
		}
		p, _ := play.Run(g)
		many := beginnings(p.Steps, p.History)
		if len(many) != len(g.Picks)+1 {
			t.Fatalf("%d picks: %d", len(g.Picks), len(many))
		}
		for k, n := range many {
			first, _ := play.First(g, k)
			if q, _ := play.Run(first); len(q.History) != n {
				t.Fatalf("the first %d picks of %v: %d events, want %d", k, g, n, len(q.History))
			}
		}
	}
}
