package bst_test

import (
	"math"
	"math/rand"
	"slices"
	"strconv"
	"testing"

	"larch/api"
	"larch/bst"
	"larch/event"
	"larch/model"
	"larch/search"
	"larch/table"
)

func get(key int) api.Op           { return api.Op{Kind: api.Get, Key: key} }
func put(key, val int) api.Op      { return api.Op{Kind: api.Put, Key: key, Val: val} }
func ifAbsent(key, val int) api.Op { return api.Op{Kind: api.PutIfAbsent, Key: key, Val: val} }
func del(key int) api.Op           { return api.Op{Kind: api.Delete, Key: key} }

func ops(list ...api.Op) []api.Op            { return list }
func workers(scripts ...[]api.Op) [][]api.Op { return scripts }
func times(n, worker int) []int              { return slices.Repeat([]int{worker}, n) }

// pairsOf: key, value, key, value, ..
func pairsOf(numbers ...int) []api.Pair {
	var pairs []api.Pair
	for i := 0; i+1 < len(numbers); i += 2 {
		pairs = append(pairs, api.Pair{Key: numbers[i], Val: numbers[i+1]})
	}
	return pairs
}

// branch is a tree as the chapter's rules make it. A leaf has no children.
type branch struct {
	inf         bool
	key, val    int
	left, right *branch
}

func sentinel() *branch { return &branch{inf: true} }

func emptyTree() *branch { return &branch{inf: true, left: sentinel(), right: sentinel()} }

func (b *branch) isLeaf() bool { return b.left == nil }

func (b *branch) isAbove(key int) bool { return b.inf || key < b.key }

func (b *branch) holds(key int) bool { return b.isLeaf() && !b.inf && b.key == key }

// has: does a search for the key end at a leaf with it?
func (b *branch) has(key int) bool {
	for !b.isLeaf() {
		if b.isAbove(key) {
			b = b.left
		} else {
			b = b.right
		}
	}
	return b.holds(key)
}

// with: the tree behind a Put.
func (b *branch) with(key, val int) *branch {
	fresh := &branch{key: key, val: val}
	switch {
	case b.holds(key):
		return fresh
	case b.isLeaf() && b.isAbove(key):
		return &branch{inf: b.inf, key: b.key, left: fresh, right: b}
	case b.isLeaf():
		return &branch{key: key, left: b, right: fresh}
	case b.isAbove(key):
		return &branch{inf: b.inf, key: b.key, left: b.left.with(key, val), right: b.right}
	}
	return &branch{inf: b.inf, key: b.key, left: b.left, right: b.right.with(key, val)}
}

// without: the tree behind a Delete of a key that is there.
func (b *branch) without(key int) *branch {
	switch {
	case b.left.holds(key):
		return b.right
	case b.right.holds(key):
		return b.left
	case b.isAbove(key):
		return &branch{inf: b.inf, key: b.key, left: b.left.without(key), right: b.right}
	}
	return &branch{inf: b.inf, key: b.key, left: b.left, right: b.right.without(key)}
}

func (b *branch) behind(o api.Op) *branch {
	there := b.has(o.Key)
	switch {
	case o.Kind == api.Put, o.Kind == api.PutIfAbsent && !there:
		return b.with(o.Key, o.Val)
	case o.Kind == api.Delete && there:
		return b.without(o.Key)
	}
	return b
}

// text: as layer 16 writes it, all weights 1.
func (b *branch) text() string {
	name := strconv.Itoa(b.key)
	if b.inf {
		name = "inf"
	}
	switch {
	case !b.isLeaf():
		return "(" + name + ":1 " + b.left.text() + " " + b.right.text() + ")"
	case b.inf:
		return "(inf:1)"
	}
	return "(" + name + ":1=" + strconv.Itoa(b.val) + ")"
}

// grown: the tree of the pairs, behind the operations.
func grown(start []api.Pair, script []api.Op) *branch {
	b := emptyTree()
	for _, p := range start {
		b = b.with(p.Key, p.Val)
	}
	for _, o := range script {
		b = b.behind(o)
	}
	return b
}

func sameRets(a, b []api.Ret) bool { return slices.EqualFunc(a, b, model.SameRet) }

// wantAlone: Alone answers as layer 6 and as the rules say.
func wantAlone(t *testing.T, start []api.Pair, script []api.Op) {
	t.Helper()
	_, want, _ := model.Run(model.Of(start), script)
	tree, _ := table.Read(grown(start, script).text())
	rets, got, e := bst.Alone(start, script)
	if e != api.OK || !sameRets(rets, want) || !slices.Equal(got, tree) {
		t.Fatalf("Alone(%v, %v) = %v, %v, %d, want %v, %v", start, script, rets, got, e, want, tree)
	}
}

// wantTree: P21.3, of a table.
func wantTree(t *testing.T, tree []api.Node) {
	t.Helper()
	norm, e := table.Norm(tree)
	if e != api.OK || !slices.Equal(norm, tree) {
		t.Fatalf("%v is no tree, numbered from the root on (%d)", tree, e)
	}
	ordered, e := table.Ordered(tree)
	heavy := slices.ContainsFunc(tree, func(n api.Node) bool { return n.Weight != 1 })
	if e != api.OK || !ordered || heavy {
		t.Fatalf("%v: ordered %v (%d), a weight that isn't 1: %v", tree, ordered, e, heavy)
	}
	root, e := table.Root(tree)
	if e == api.ErrNone {
		return
	}
	keys, f := table.Sub(tree, root)
	leaves, g := table.Leaves(keys)
	if e != api.OK || f != api.OK || g != api.OK || 2*len(leaves)-1 != len(keys) {
		t.Fatalf("%v: the tree of the keys is %v (%d, %d, %d)", tree, keys, e, f, g)
	}
}

// wantOrder: P21.2, of at most search.MaxSearch operations.
func wantOrder(t *testing.T, start []api.Pair, p bst.Played) {
	t.Helper()
	left, _ := table.Pairs(p.Table)
	ends, e := search.Ends(search.Map, search.State{Pairs: model.Of(start)}, p.History)
	comes := slices.ContainsFunc(ends, func(s search.State) bool { return slices.Equal(s.Pairs, left) })
	if e != api.OK || !comes {
		t.Fatalf("from %v no order of %v comes to %v, but to %v (%d)", start, p.History, left, ends, e)
	}
}

// wantPlay: a run that obeys the laws that hold whatever the picks are.
func wantPlay(t *testing.T, start []api.Pair, scripts [][]api.Op, picks []int) bst.Played {
	t.Helper()
	p, e := bst.Play(start, scripts, picks)
	if e != api.OK || len(p.Steps) != len(picks) || len(p.Ended) != len(scripts) || event.Check(p.History) != api.OK {
		t.Fatalf("Play(%v, %v, %v) = %v, %d", start, scripts, picks, p, e)
	}
	wantTree(t, p.Table)
	if len(slices.Concat(scripts...)) <= search.MaxSearch {
		wantOrder(t, start, p)
	}
	return p
}

// accesses: how many picks an operation takes that nobody disturbs, its Start too.
func accesses(t *testing.T, start []api.Pair, o api.Op) int {
	t.Helper()
	kinds, e := bst.Kinds(start, ops(o))
	if e != api.OK || len(kinds) < 2 {
		t.Fatalf("Kinds(%v, %v) = %v, %d", start, o, kinds, e)
	}
	return len(kinds)
}

func isNothing(p bst.Played) bool {
	return p.Steps == nil && p.Ended == nil && p.History == nil && p.Table == nil
}

// noKinds: those of layer 6 that this tree hasn't, and some that nobody has.
func noKinds() []int {
	return []int{api.Successor, api.Predecessor, api.Min, api.Max, api.Range, 0, -1, 10, 99, math.MinInt, math.MaxInt}
}

func someKey(r *rand.Rand) int {
	if r.Intn(12) == 0 {
		return []int{math.MinInt, math.MinInt + 1, math.MaxInt - 1, math.MaxInt}[r.Intn(4)]
	}
	return r.Intn(9) - 3
}

func someOps(r *rand.Rand, n int) []api.Op {
	list := make([]api.Op, n)
	for i := range list {
		list[i] = api.Op{Kind: 1 + r.Intn(4), Key: someKey(r), Val: r.Intn(100), Hi: r.Intn(100)}
	}
	return list
}

// somePairs: keys in any order, some of them twice.
func somePairs(r *rand.Rand, most int) []api.Pair {
	list := make([]api.Pair, r.Intn(most+1))
	for i := range list {
		list[i] = api.Pair{Key: someKey(r), Val: -r.Intn(100)}
	}
	return list
}

// somePicks: now one access of a worker, now many; here and there one that does nothing.
func somePicks(r *rand.Rand, crew, n int) []int {
	var picks []int
	for len(picks) < n {
		picks = append(picks, times(1+r.Intn(1<<r.Intn(6)), r.Intn(crew))...)
		if r.Intn(10) == 0 {
			picks = append(picks, []int{-1, crew, math.MinInt, math.MaxInt}[r.Intn(4)])
		}
	}
	return picks
}
