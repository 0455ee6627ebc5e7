package chroma_test

import (
	"math"
	"math/rand"
	"slices"
	"strconv"
	"testing"

	"larch/api"
	"larch/chroma"
	"larch/event"
	"larch/model"
	"larch/search"
	"larch/seq"
	"larch/table"
	"larch/weigh"
)

func get(key int) api.Op           { return api.Op{Kind: api.Get, Key: key} }
func put(key, val int) api.Op      { return api.Op{Kind: api.Put, Key: key, Val: val} }
func ifAbsent(key, val int) api.Op { return api.Op{Kind: api.PutIfAbsent, Key: key, Val: val} }
func del(key int) api.Op           { return api.Op{Kind: api.Delete, Key: key} }

func ops(list ...api.Op) []api.Op            { return list }
func workers(scripts ...[]api.Op) [][]api.Op { return scripts }
func times(n, worker int) []int              { return slices.Repeat([]int{worker}, n) }

// below: the table whose tree of the keys has that text; "" of an empty map.
func below(t *testing.T, keys string) []api.Node {
	t.Helper()
	if keys == "" {
		return table.Empty()
	}
	list, e := table.Read("(inf:1 (inf:1 " + keys + " (inf:1)) (inf:1))")
	if e != api.OK {
		t.Fatalf("%s can't be read", keys)
	}
	return list
}

// keysOf: the text of the tree of the keys.
func keysOf(list []api.Node) string {
	root, e := table.Root(list)
	if e != api.OK {
		return ""
	}
	keys, _ := table.Sub(list, root)
	text, _ := table.Text(keys)
	return text
}

func leafText(key, weight int) string {
	return "(" + strconv.Itoa(key) + ":" + strconv.Itoa(weight) + "=" + strconv.Itoa(10*key) + ")"
}

func innerText(key, weight int, left, right string) string {
	return "(" + strconv.Itoa(key) + ":" + strconv.Itoa(weight) + " " + left + " " + right + ")"
}

// allBelow: the texts of all trees of so many leaves, their keys from lo on, in which the weights to each leaf add up to sum; the top one's is that, or any if it is negative.
func allBelow(lo, leaves, sum, top int) []string {
	if leaves == 1 {
		if top >= 0 && top != sum {
			return nil
		}
		return []string{leafText(lo, sum)}
	}
	var all []string
	for weight := range sum {
		if top >= 0 && top != weight {
			continue
		}
		for n := 1; n < leaves; n++ {
			for _, left := range allBelow(lo, n, sum-weight, -1) {
				for _, right := range allBelow(lo+n, leaves-n, sum-weight, -1) {
					all = append(all, innerText(lo+n, weight, left, right))
				}
			}
		}
	}
	return all
}

// someBelow: one of these by chance; its keys are two apart.
func someBelow(r *rand.Rand, lo, leaves, sum, top int) string {
	if leaves == 1 {
		return leafText(lo, sum)
	}
	weight := top
	if top < 0 {
		weight = min([]int{0, 0, 0, 1, 1, 1, 1, 2, 3}[r.Intn(9)], sum-1)
	}
	n := 1 + r.Intn(leaves-1)
	return innerText(lo+2*n-r.Intn(2), weight, someBelow(r, lo, n, sum-weight, -1), someBelow(r, lo+2*n, leaves-n, sum-weight, -1))
}

// someFit: a fit table of so many leaves, with violations as they come.
func someFit(t *testing.T, r *rand.Rand, leaves int) []api.Node {
	t.Helper()
	switch leaves {
	case 0:
		return table.Empty()
	case 1:
		return below(t, leafText(0, 1))
	}
	return below(t, someBelow(r, 0, leaves, 2+r.Intn(6), 1))
}

// someClean: a table without a violation, of Puts and Deletes of so many keys.
func someClean(r *rand.Rand, keys int) []api.Node {
	list, _, _, _ := seq.Run(table.Empty(), someOps(r, 3*keys, max(keys, 1)))
	return list
}

// shuffled: the same table, numbered by chance.
func shuffled(r *rand.Rand, list []api.Node) []api.Node {
	at := append([]int{0}, r.Perm(len(list)-1)...)
	for i := range at[1:] {
		at[i+1]++
	}
	mixed := make([]api.Node, len(list))
	for place, n := range list {
		if n.Left != -1 {
			n.Left, n.Right = at[n.Left], at[n.Right]
		}
		mixed[at[place]] = n
	}
	return mixed
}

// someOps: changes mostly, of keys below that and a few beside them.
func someOps(r *rand.Rand, n, keys int) []api.Op {
	list := make([]api.Op, n)
	for i := range list {
		list[i] = api.Op{Kind: []int{1, 2, 2, 3, 4, 4}[r.Intn(6)], Key: r.Intn(keys+2) - 1, Val: r.Intn(1000), Hi: r.Intn(9)}
	}
	return list
}

// somePicks: now one access of a worker, now many; here and there one that does nothing.
func somePicks(r *rand.Rand, crew, n int) []int {
	var picks []int
	for len(picks) < n {
		picks = append(picks, times(1+r.Intn(1<<r.Intn(7)), r.Intn(crew))...)
		if r.Intn(10) == 0 {
			picks = append(picks, []int{-1, crew, math.MinInt, math.MaxInt}[r.Intn(4)])
		}
	}
	return picks
}

func sameRets(a, b []api.Ret) bool { return slices.EqualFunc(a, b, model.SameRet) }

func sameEvent(a, b api.Event) bool {
	return a.Thread == b.Thread && a.Return == b.Return && a.Op == b.Op && model.SameRet(a.Ret, b.Ret)
}

func retsOf(p chroma.Played) []api.Ret {
	var rets []api.Ret
	for _, e := range p.History {
		if e.Return {
			rets = append(rets, e.Ret)
		}
	}
	return rets
}

// kindsOf: of the steps that did something.
func kindsOf(p chroma.Played) []int {
	var kinds []int
	for _, s := range p.Steps {
		if s.Kind != -1 {
			kinds = append(kinds, s.Kind)
		}
	}
	return kinds
}

// pendingOf: how many updates are pending.
func pendingOf(history []api.Event) int {
	n := 0
	for _, e := range history {
		switch {
		case e.Op.Kind == api.Get:
		case e.Return:
			n--
		default:
			n++
		}
	}
	return n
}

// wantFit: the table is fit, numbered from the root on.
func wantFit(t *testing.T, list []api.Node) {
	t.Helper()
	norm, _ := table.Norm(list)
	if e := seq.Check(list); e != api.OK || !slices.Equal(norm, list) {
		t.Fatalf("%v (%s) isn't fit, or isn't numbered from the root on: %d", list, keysOf(list), e)
	}
}

// wantDebts: P22.4, of a table behind a start without a violation.
func wantDebts(t *testing.T, list []api.Node, pending int) {
	t.Helper()
	faults, e := weigh.Violations(list)
	if e != api.OK || faults > pending {
		t.Fatalf("%s has %d violations, and %d updates are pending (%d)", keysOf(list), faults, pending, e)
	}
	if fits, _ := weigh.Fits(list); pending == 0 && !fits {
		t.Fatalf("%s doesn't fit", keysOf(list))
	}
}

// wantOrder: P22.3, of at most search.MaxSearch operations.
func wantOrder(t *testing.T, start []api.Node, p chroma.Played) {
	t.Helper()
	from, _ := table.Pairs(start)
	left, _ := table.Pairs(p.Table)
	ends, e := search.Ends(search.Map, search.State{Pairs: from}, p.History)
	comes := slices.ContainsFunc(ends, func(s search.State) bool { return slices.Equal(s.Pairs, left) })
	if e != api.OK || !comes {
		t.Fatalf("from %v no order of %v comes to %v, but to %v (%d)", from, p.History, left, ends, e)
	}
}

// wantUnnamed: P22.6, of keys that no operation names.
func wantUnnamed(t *testing.T, start []api.Node, scripts [][]api.Op, list []api.Node) {
	t.Helper()
	before, _ := table.Pairs(start)
	after, _ := table.Pairs(list)
	isNamed := func(p api.Pair) bool {
		return slices.ContainsFunc(slices.Concat(scripts...), func(o api.Op) bool { return o.Key == p.Key })
	}
	if !slices.Equal(slices.DeleteFunc(before, isNamed), slices.DeleteFunc(after, isNamed)) {
		t.Fatalf("of %s is left %s by %v", keysOf(start), keysOf(list), scripts)
	}
}

// wantLaws: what holds whatever the picks are.
func wantLaws(t *testing.T, start []api.Node, scripts [][]api.Op, p chroma.Played) {
	t.Helper()
	wantFit(t, p.Table)
	wantUnnamed(t, start, scripts, p.Table)
	if event.Check(p.History) != api.OK || len(p.Ended) != len(scripts) {
		t.Fatalf("history %v, ended %v", p.History, p.Ended)
	}
	if faults, _ := weigh.Violations(start); faults == 0 {
		wantDebts(t, p.Table, pendingOf(p.History))
	}
	if len(slices.Concat(scripts...)) <= search.MaxSearch {
		wantOrder(t, start, p)
	}
}

func wantPlay(t *testing.T, start []api.Node, scripts [][]api.Op, picks []int) chroma.Played {
	t.Helper()
	p, e := chroma.Play(start, scripts, picks)
	if e != api.OK || len(p.Steps) != len(picks) {
		t.Fatalf("Play(%s, %v, %v) = %v, %d", keysOf(start), scripts, picks, p, e)
	}
	wantLaws(t, start, scripts, p)
	return p
}

// wantAll: Finish, in which all end.
func wantAll(t *testing.T, start []api.Node, scripts [][]api.Op, picks []int) chroma.Played {
	t.Helper()
	p, all, e := chroma.Finish(start, scripts, picks, enough(start, scripts, picks))
	if e != api.OK || !all || slices.Contains(p.Ended, false) || len(p.History) != 2*len(slices.Concat(scripts...)) {
		t.Fatalf("Finish(%s, %v, %v): %v, %d", keysOf(start), scripts, picks, all, e)
	}
	wantLaws(t, start, scripts, p)
	return p
}

// enough: P22.5's number of picks, or as many as there may be.
func enough(start []api.Node, scripts [][]api.Op, picks []int) int {
	n := len(scripts) + len(slices.Concat(scripts...)) + len(start)
	return min(2000*n*n, api.MaxPicks-len(picks))
}

func isNothing(p chroma.Played) bool {
	return p.Steps == nil && p.Ended == nil && p.History == nil && p.Table == nil
}

// noKinds: those of layer 6 that this tree hasn't, and some that nobody has.
func noKinds() []int {
	return []int{api.Successor, api.Predecessor, api.Min, api.Max, api.Range, 0, -1, 10, 99, math.MinInt, math.MaxInt}
}
