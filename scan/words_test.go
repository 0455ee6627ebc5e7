package scan_test

import (
	"math"
	"math/rand"
	"slices"
	"strconv"
	"testing"

	"larch/api"
	"larch/event"
	"larch/model"
	"larch/node"
	"larch/scan"
	"larch/search"
	"larch/seq"
	"larch/table"
)

func get(key int) api.Op           { return api.Op{Kind: api.Get, Key: key} }
func put(key, val int) api.Op      { return api.Op{Kind: api.Put, Key: key, Val: val} }
func ifAbsent(key, val int) api.Op { return api.Op{Kind: api.PutIfAbsent, Key: key, Val: val} }
func del(key int) api.Op           { return api.Op{Kind: api.Delete, Key: key} }
func after(key int) api.Op         { return api.Op{Kind: api.Successor, Key: key} }
func before(key int) api.Op        { return api.Op{Kind: api.Predecessor, Key: key} }
func least() api.Op                { return api.Op{Kind: api.Min} }
func greatest() api.Op             { return api.Op{Kind: api.Max} }
func rangeOf(lo, hi int) api.Op    { return api.Op{Kind: api.Range, Key: lo, Hi: hi} }
func everything() api.Op           { return rangeOf(math.MinInt, math.MaxInt) }

func ops(list ...api.Op) []api.Op            { return list }
func workers(scripts ...[]api.Op) [][]api.Op { return scripts }
func times(n, worker int) []int              { return slices.Repeat([]int{worker}, n) }

// pairsOf: key, value, key, value, ..
func pairsOf(numbers ...int) []api.Pair {
	var pairs []api.Pair
	for i := 0; i+1 < len(numbers); i += 2 {
		pairs = append(pairs, api.Pair{Key: numbers[i], Val: numbers[i+1]})
	}
	return pairs
}

// below: the table whose tree of the keys has that text; "" of an empty map.
func below(t *testing.T, keys string) []api.Node {
	t.Helper()
	if keys == "" {
		return table.Empty()
	}
	list, e := table.Read("(inf:1 (inf:1 " + keys + " (inf:1)) (inf:1))")
	if e != api.OK {
		t.Fatalf("%s can't be read", keys)
	}
	return list
}

// keysOf: the text of the tree of the keys.
func keysOf(list []api.Node) string {
	root, e := table.Root(list)
	if e != api.OK {
		return ""
	}
	keys, _ := table.Sub(list, root)
	text, _ := table.Text(keys)
	return text
}

func pairsIn(t *testing.T, list []api.Node) []api.Pair {
	t.Helper()
	pairs, e := table.Pairs(list)
	if e != api.OK {
		t.Fatalf("%v has no pairs: %d", list, e)
	}
	return pairs
}

func entryOf(t *testing.T, list []api.Node) *node.Node {
	t.Helper()
	entry, e := node.Make(list)
	if e != api.OK {
		t.Fatalf("%v can't be made", list)
	}
	return entry
}

func tableOf(t *testing.T, entry *node.Node) []api.Node {
	t.Helper()
	list, e := node.Read(nil, entry)
	if e != api.OK {
		t.Fatalf("the tree can't be read: %d", e)
	}
	return list
}

func leafText(key, weight int) string {
	return "(" + strconv.Itoa(key) + ":" + strconv.Itoa(weight) + "=" + strconv.Itoa(10*key) + ")"
}

func innerText(key, weight int, left, right string) string {
	return "(" + strconv.Itoa(key) + ":" + strconv.Itoa(weight) + " " + left + " " + right + ")"
}

// shapes: the texts of all ordered trees of these keys, which rise by two: with each inner key that parts them.
func shapes(keys []int) []string {
	if len(keys) == 1 {
		return []string{leafText(keys[0], 1)}
	}
	var all []string
	for n := 1; n < len(keys); n++ {
		for _, left := range shapes(keys[:n]) {
			for _, right := range shapes(keys[n:]) {
				for key := keys[n-1] + 1; key <= keys[n]; key++ {
					all = append(all, innerText(key, 1, left, right))
				}
			}
		}
	}
	return all
}

// someShape: one of these by chance; any weights.
func someShape(r *rand.Rand, keys []int) string {
	if len(keys) == 1 {
		return leafText(keys[0], r.Intn(4))
	}
	n := 1 + r.Intn(len(keys)-1)
	if r.Intn(4) == 0 { // a deep one
		n = []int{1, len(keys) - 1}[r.Intn(2)]
	}
	return innerText(keys[n]-r.Intn(keys[n]-keys[n-1]), r.Intn(4), someShape(r, keys[:n]), someShape(r, keys[n:]))
}

// someTable: ordered, with a crown, of so many keys, and any weights.
func someTable(t *testing.T, r *rand.Rand, leaves int) []api.Node {
	t.Helper()
	if leaves == 0 {
		return table.Empty()
	}
	keys := make([]int, leaves)
	keys[0] = r.Intn(5) - leaves
	for i := range keys[1:] {
		keys[i+1] = keys[i] + 1 + r.Intn(3)
	}
	return shuffled(r, below(t, someShape(r, keys)))
}

// someEven: trees of so many leaves, keys two apart, in which the weights to each leaf add up to sum.
func someEven(r *rand.Rand, lo, leaves, sum, top int) string {
	if leaves == 1 {
		return leafText(lo, sum)
	}
	weight := top
	if top < 0 {
		weight = min([]int{0, 0, 0, 1, 1, 1, 1, 2, 3}[r.Intn(9)], sum-1)
	}
	n := 1 + r.Intn(leaves-1)
	return innerText(lo+2*n-r.Intn(2), weight, someEven(r, lo, n, sum-weight, -1), someEven(r, lo+2*n, leaves-n, sum-weight, -1))
}

// someFit: a fit table of so many leaves, with violations as they come.
func someFit(t *testing.T, r *rand.Rand, leaves int) []api.Node {
	t.Helper()
	switch leaves {
	case 0:
		return table.Empty()
	case 1:
		return below(t, leafText(0, 1))
	}
	return shuffled(r, below(t, someEven(r, 0, leaves, 2+r.Intn(6), 1)))
}

// shuffled: the same table, numbered by chance.
func shuffled(r *rand.Rand, list []api.Node) []api.Node {
	at := append([]int{0}, r.Perm(len(list)-1)...)
	for i := range at[1:] {
		at[i+1]++
	}
	mixed := make([]api.Node, len(list))
	for place, n := range list {
		if n.Left != -1 {
			n.Left, n.Right = at[n.Left], at[n.Right]
		}
		mixed[at[place]] = n
	}
	return mixed
}

// wide: a table of so many keys from 0 on, without a violation.
func wide(t *testing.T, keys int) []api.Node {
	t.Helper()
	list := make([]api.Pair, keys)
	for i := range list {
		list[i] = api.Pair{Key: i, Val: 10 * i}
	}
	n, e := seq.Of(list)
	if e != api.OK {
		t.Fatalf("%d keys: %d", keys, e)
	}
	return n
}

// deep: a table of so many keys from 0 on, each inner node of which has a leaf on one side: lean says on which, by the number of nodes above it.
func deep(keys int, lean func(level int) bool) []api.Node {
	list := []api.Node{{Inf: 1, Weight: 1, Left: 1, Right: 2}, {Inf: 1, Weight: 1, Left: 4, Right: 3}, {Inf: 1, Weight: 1, Left: -1, Right: -1}, {Inf: 1, Weight: 1, Left: -1, Right: -1}}
	leaf := func(key int) api.Node { return api.Node{Key: key, Weight: 1, Val: 10 * key, Left: -1, Right: -1} }
	lo, hi := 0, keys-1
	for level := 0; lo < hi; level++ {
		next := len(list) + 2
		if lean(level) { // the greatest key is the leaf
			list = append(list, api.Node{Key: hi, Weight: 1, Left: next, Right: next - 1}, leaf(hi))
			hi--
		} else {
			list = append(list, api.Node{Key: lo + 1, Weight: 1, Left: next - 1, Right: next}, leaf(lo))
			lo++
		}
	}
	return append(list, leaf(lo))
}

// readOps: each operation that doesn't change, for each key from lo to hi.
func readOps(lo, hi int) []api.Op {
	list := ops(least(), greatest(), everything())
	for key := lo; key <= hi; key++ {
		list = append(list, get(key), after(key), before(key))
		for to := lo; to <= hi; to++ {
			list = append(list, rangeOf(key, to))
		}
	}
	return list
}

func isRead(kind int) bool {
	return model.Kind(kind) == api.OK && !model.Changes(kind)
}

// someOps: of these kinds, of keys below that and a few beside them.
func someOps(r *rand.Rand, n, keys int, kinds ...int) []api.Op {
	list := make([]api.Op, n)
	for i := range list {
		key := r.Intn(keys+2) - 1
		list[i] = api.Op{Kind: kinds[r.Intn(len(kinds))], Key: key, Val: r.Intn(1000), Hi: key + r.Intn(keys+2) - 1}
	}
	return list
}

// The kinds: those that change, and the others.
var (
	changing = []int{api.Put, api.PutIfAbsent, api.Delete}
	reading  = []int{api.Get, api.Successor, api.Predecessor, api.Min, api.Max, api.Range}
)

// noKinds are nobody's.
func noKinds() []int { return []int{0, -1, 10, 99, math.MinInt, math.MaxInt} }

// somePicks: now one access of a worker, now many; here and there one that does nothing.
func somePicks(r *rand.Rand, crew, n int) []int {
	var picks []int
	for len(picks) < n {
		picks = append(picks, times(1+r.Intn(1<<r.Intn(7)), r.Intn(crew))...)
		if r.Intn(10) == 0 {
			picks = append(picks, []int{-1, crew, math.MinInt, math.MaxInt}[r.Intn(4)])
		}
	}
	return picks
}

func sameRets(a, b []api.Ret) bool { return slices.EqualFunc(a, b, model.SameRet) }

func sameEvent(a, b api.Event) bool {
	return a.Thread == b.Thread && a.Return == b.Return && a.Op == b.Op && model.SameRet(a.Ret, b.Ret)
}

// sameAnswer: SameRet, of the result of Do.
func sameAnswer(a, b api.Ret, e api.Errno) bool { return e == api.OK && model.SameRet(a, b) }

func retsOf(p scan.Played) []api.Ret {
	var rets []api.Ret
	for _, e := range p.History {
		if e.Return {
			rets = append(rets, e.Ret)
		}
	}
	return rets
}

// kindsOf: of the steps that did something.
func kindsOf(p scan.Played) []int {
	var kinds []int
	for _, s := range p.Steps {
		if s.Kind != -1 {
			kinds = append(kinds, s.Kind)
		}
	}
	return kinds
}

func isNothing(p scan.Played) bool {
	return p.Steps == nil && p.Ended == nil && p.Panics == nil && p.History == nil && p.Table == nil
}

// wantTree: the table is fit, numbered from the root on.
func wantTree(t *testing.T, list []api.Node) {
	t.Helper()
	norm, _ := table.Norm(list)
	if e := seq.Check(list); e != api.OK || !slices.Equal(norm, list) {
		t.Fatalf("%v (%s) isn't fit, or isn't numbered from the root on: %d", list, keysOf(list), e)
	}
}

// wantOrder: P23.3, of at most search.MaxSearch operations.
func wantOrder(t *testing.T, start []api.Node, p scan.Played) {
	t.Helper()
	from, left := pairsIn(t, start), pairsIn(t, p.Table)
	ends, e := search.Ends(search.Map, search.State{Pairs: from}, p.History)
	comes := slices.ContainsFunc(ends, func(s search.State) bool { return slices.Equal(s.Pairs, left) })
	if e != api.OK || !comes {
		t.Fatalf("from %v no order of %v comes to %v, but to %v (%d)", from, p.History, left, ends, e)
	}
}

// wantPlay: a run that obeys what holds whatever the picks are.
func wantPlay(t *testing.T, start []api.Node, scripts [][]api.Op, picks []int) scan.Played {
	t.Helper()
	p, e := scan.Play(start, scripts, picks)
	if e != api.OK || len(p.Steps) != len(picks) || len(p.Ended) != len(scripts) || len(p.Panics) != len(scripts) || slices.Contains(p.Panics, true) || event.Check(p.History) != api.OK {
		t.Fatalf("Play(%s, %v, %v) = %v, %d", keysOf(start), scripts, picks, p, e)
	}
	wantTree(t, p.Table)
	all := slices.Concat(scripts...)
	if len(all) <= search.MaxSearch {
		wantOrder(t, start, p)
	}
	if !slices.ContainsFunc(all, func(o api.Op) bool { return !isRead(o.Kind) }) {
		if norm, _ := table.Norm(start); !slices.Equal(p.Table, norm) {
			t.Fatalf("%v read alone, and left %s of %s", scripts, keysOf(p.Table), keysOf(start))
		}
	}
	return p
}
