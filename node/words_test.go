package node_test

import (
	"math"
	"math/rand"
	"slices"
	"testing"

	"larch/api"
	"larch/cell"
	"larch/node"
	"larch/table"
)

// numbers are those at which something could turn.
var numbers = []int{math.MinInt, math.MinInt + 1, -1, 0, 1, 2, 3, 4, math.MaxInt - 1, math.MaxInt}

func someNumber(r *rand.Rand) int { return numbers[r.Intn(len(numbers))] }

// someTable: a tree of so many leaves, of any keys, weights and values, sentinels anywhere; numbered from the root on.
func someTable(r *rand.Rand, leaves int) []api.Node {
	var t []api.Node
	var grow func(leaves int) int
	grow = func(leaves int) int {
		n := api.Node{Key: someNumber(r), Weight: []int{0, 1, 2, api.MaxWeight}[r.Intn(4)], Left: -1, Right: -1}
		if leaves == 1 {
			n.Val = someNumber(r)
		}
		if r.Intn(4) == 0 {
			n.Key, n.Inf, n.Val = 0, 1, 0
		}
		place := len(t)
		t = append(t, n)
		if leaves > 1 {
			left := 1 + r.Intn(leaves-1)
			l := grow(left)
			r := grow(leaves - left)
			t[place].Left, t[place].Right = l, r
		}
		return place
	}
	grow(leaves)
	return t
}

// orderedTable: an ordered tree of so many leaves, their keys two apart from lo on, below the crown.
func orderedTable(r *rand.Rand, lo, leaves int) []api.Node {
	if leaves == 0 {
		return table.Empty()
	}
	t := []api.Node{inf(1, 0), inf(2, 0)}
	var grow func(lo, leaves int) int
	grow = func(lo, leaves int) int {
		place := len(t)
		t = append(t, api.Node{Key: lo, Weight: r.Intn(3), Val: 1 + r.Intn(9), Left: -1, Right: -1})
		if leaves > 1 {
			n := 1 + r.Intn(leaves-1)
			t[place].Key, t[place].Val = lo+2*n-r.Intn(2), 0
			l := grow(lo, n)
			r := grow(lo+2*n, leaves-n)
			t[place].Left, t[place].Right = l, r
		}
		return place
	}
	grow(lo, leaves)
	t[1].Right, t[0].Right = len(t), len(t)+1
	return append(t, inf(-1, -1), inf(-1, -1))
}

func inf(left, right int) api.Node { return api.Node{Inf: 1, Weight: 1, Left: left, Right: right} }

// shuffled: the same table with its places numbered by chance, the root's 0.
func shuffled(r *rand.Rand, t []api.Node) []api.Node {
	at := []int{0}
	for _, place := range r.Perm(len(t) - 1) {
		at = append(at, place+1)
	}
	odd := make([]api.Node, len(t))
	for place, n := range t {
		if n.Left != -1 {
			n.Left, n.Right = at[n.Left], at[n.Right]
		}
		odd[at[place]] = n
	}
	return odd
}

// read: the table of a text of the tree of the keys.
func read(t *testing.T, keys string) []api.Node {
	t.Helper()
	n, e := table.Read("(inf:1 (inf:1 " + keys + " (inf:1)) (inf:1))")
	if e != api.OK {
		t.Fatalf("%s is no tree: %d", keys, e)
	}
	return n
}

// exampleA is the chapter's table A.
func exampleA(t *testing.T) []api.Node { return read(t, "(7:1 (5:1=50) (7:1=70))") }

func made(t *testing.T, n []api.Node) *node.Node {
	t.Helper()
	entry, e := node.Make(n)
	if e != api.OK || entry == nil {
		t.Fatalf("Make(%v): %d", n, e)
	}
	return entry
}

// loads: so many of them.
func loads(n int) []int { return slices.Repeat([]int{api.Load}, n) }

func inners(n []api.Node) int { return (len(n) - 1) / 2 }

// wantLoads: what a gate of its own was asked for by the call.
func wantLoads(t *testing.T, name string, want int, call func(g cell.Gate)) {
	t.Helper()
	tape := cell.NewTape()
	call(tape)
	if got := tape.Kinds(); !slices.Equal(got, loads(want)) {
		t.Errorf("%s: the accesses %v, want %d Loads", name, got, want)
	}
}

// deepTable: a tree of so many inner nodes, each with a leaf on its left, or (toLeft) on its right; ordered, without a crown.
func deepTable(inners int, toLeft bool) []api.Node {
	var t []api.Node
	for i := range inners {
		place := len(t)
		if toLeft {
			t = append(t, api.Node{Key: inners - i, Weight: 1, Left: place + 1, Right: 2*inners - i})
			continue
		}
		t = append(t, api.Node{Key: i + 1, Weight: 1, Left: place + 1, Right: place + 2}, api.Node{Key: i, Val: i, Weight: 1, Left: -1, Right: -1})
	}
	if !toLeft {
		return append(t, api.Node{Key: inners, Val: inners, Weight: 1, Left: -1, Right: -1})
	}
	for i := range inners + 1 {
		t = append(t, api.Node{Key: i, Val: i, Weight: 1, Left: -1, Right: -1})
	}
	return t
}
