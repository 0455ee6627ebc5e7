package weigh_test

import (
	"math/rand"
	"testing"

	"larch/api"
	"larch/table"
)

// What the chapter says, of trees made of pointers, by functions that call themselves: the tests hold the package against it.

// tree is a node of the tree of the keys with its two sides, or a leaf (both nil); nil is the tree of an empty map.
type tree struct {
	key, weight, val int
	left, right      *tree
}

func (x *tree) isLeaf() bool { return x.left == nil }

// all: the nodes by the tree's order.
func (x *tree) all() []*tree {
	if x == nil {
		return nil
	}
	return append(append([]*tree{x}, x.left.all()...), x.right.all()...)
}

// table: below the crown, numbered from the root on.
func (x *tree) table() []api.Node {
	if x == nil {
		return []api.Node{inf(1, 2), inf(-1, -1), inf(-1, -1)}
	}
	t := x.behind([]api.Node{inf(1, -1), inf(2, -1)})
	t[1].Right, t[0].Right = len(t), len(t)+1
	return append(t, inf(-1, -1), inf(-1, -1))
}

func inf(left, right int) api.Node { return api.Node{Inf: 1, Weight: 1, Left: left, Right: right} }

func (x *tree) behind(t []api.Node) []api.Node {
	place := len(t)
	t = append(t, api.Node{Key: x.key, Weight: x.weight, Val: x.val, Left: -1, Right: -1})
	if !x.isLeaf() {
		left := len(t)
		t = x.left.behind(t)
		right := len(t)
		t = x.right.behind(t)
		t[place].Left, t[place].Right = left, right
	}
	return t
}

// sums: of the leaves, from left to right, below nodes of that weight.
func (x *tree) sums(above int) []int {
	if x == nil {
		return nil
	}
	if x.isLeaf() {
		return []int{above + x.weight}
	}
	return append(x.left.sums(above+x.weight), x.right.sums(above+x.weight)...)
}

// reds: which nodes are red-red violations, below a parent of that weight.
func (x *tree) reds(parent int) []*tree {
	if x == nil {
		return nil
	}
	below := append(x.left.reds(x.weight), x.right.reds(x.weight)...)
	if x.weight == 0 && parent == 0 {
		return append([]*tree{x}, below...)
	}
	return below
}

// overs: which nodes have an overweight.
func (x *tree) overs() []*tree {
	var over []*tree
	for _, n := range x.all() {
		if n.weight > 1 {
			over = append(over, n)
		}
	}
	return over
}

// search: the nodes that it passes.
func (x *tree) search(key int) []*tree {
	if x == nil {
		return nil
	}
	next := x.right
	if key < x.key {
		next = x.left
	}
	return append([]*tree{x}, next.search(key)...)
}

// height: in edges.
func (x *tree) height() int {
	if x.isLeaf() {
		return 0
	}
	return 1 + max(x.left.height(), x.right.height())
}

// leaves: how many.
func (x *tree) leaves() int { return len(x.sums(0)) }

// bound: the chapter's, by trying.
func bound(n int) int {
	b := 0
	for n+1 >= 1<<b {
		b++
	}
	return 2*b + 4
}

// shuffled: the same table with its places numbered by chance, the root's 0; and where each place has come.
func shuffled(r *rand.Rand, t []api.Node) ([]api.Node, []int) {
	at := []int{0}
	for _, place := range r.Perm(len(t) - 1) {
		at = append(at, place+1)
	}
	odd := make([]api.Node, len(t))
	for place, n := range t {
		if n.Left != -1 {
			n.Left, n.Right = at[n.Left], at[n.Right]
		}
		odd[at[place]] = n
	}
	return odd, at
}

// shapes: all trees of so many leaves, their keys from lo on in order, their weights 1.
func shapes(lo, leaves int) []*tree {
	if leaves == 1 {
		return []*tree{{key: lo, weight: 1, val: 10 * lo}}
	}
	var all []*tree
	for n := 1; n < leaves; n++ {
		for _, left := range shapes(lo, n) {
			for _, right := range shapes(lo+n, leaves-n) {
				all = append(all, &tree{key: lo + n, weight: 1, left: left, right: right})
			}
		}
	}
	return all
}

// eachWeight gives the nodes all weights from 0 to most, in all ways.
func eachWeight(nodes []*tree, most int, do func()) {
	if len(nodes) == 0 {
		do()
		return
	}
	old := nodes[0].weight
	for nodes[0].weight = 0; nodes[0].weight <= most; nodes[0].weight++ {
		eachWeight(nodes[1:], most, do)
	}
	nodes[0].weight = old
}

// someTree: of so many leaves and any weights; its keys are in order, from lo on, or by chance.
func someTree(r *rand.Rand, lo, leaves int, ordered bool) *tree {
	if leaves == 0 {
		return nil
	}
	x := &tree{key: lo, weight: []int{0, 0, 1, 1, 2, 7, api.MaxWeight}[r.Intn(7)], val: r.Intn(9)}
	if leaves > 1 {
		n := 1 + r.Intn(leaves-1)
		x.key, x.val = lo+n, 0
		x.left, x.right = someTree(r, lo, n, ordered), someTree(r, lo+n, leaves-n, ordered)
	}
	if !ordered {
		x.key = r.Intn(2*leaves+6) - 3
	}
	return x
}

// read: the table of a text of the tree of the keys; "" is an empty map.
func read(t *testing.T, keys string) []api.Node {
	t.Helper()
	s := "(inf:1 (inf:1) (inf:1))"
	if keys != "" {
		s = "(inf:1 (inf:1 " + keys + " (inf:1)) (inf:1))"
	}
	n, e := table.Read(s)
	if e != api.OK {
		t.Fatalf("%s is no table: %d", s, e)
	}
	return n
}

// exampleA is the chapter's table A.
func exampleA(t *testing.T) []api.Node { return read(t, "(7:1 (5:1=0) (7:1=0))") }

// mostDeep: a tree of as many inner nodes as a table can have below the crown, each with a leaf on its left or (turn) on its right, all else on the other side; ordered, numbered from the root on, its weights 1.
func mostDeep(turn func(i int) bool) []api.Node {
	const inners = (api.MaxNodes-2)/2 - 2
	t := []api.Node{inf(1, -1), inf(2, -1)}
	least, most := 0, 2*inners
	var open []int // inner nodes whose right leaf isn't laid yet
	for i := range inners {
		place := len(t)
		if turn(i) {
			t = append(t, api.Node{Key: most, Weight: 1, Left: place + 1})
			open = append(open, place)
			most--
		} else {
			t = append(t, api.Node{Key: least + 1, Weight: 1, Left: place + 1, Right: place + 2}, leaf(least, 1))
			least++
		}
	}
	t = append(t, leaf(least, 1))
	for i := len(open) - 1; i >= 0; i-- {
		t[open[i]].Right = len(t)
		t = append(t, leaf(t[open[i]].Key, 1))
	}
	t[1].Right, t[0].Right = len(t), len(t)+1
	return append(t, inf(-1, -1), inf(-1, -1))
}

func leaf(key, weight int) api.Node { return api.Node{Key: key, Weight: weight, Left: -1, Right: -1} }

// deepTables: leaning to the left, to the right, and to both in turn.
func deepTables() map[string][]api.Node {
	return map[string][]api.Node{
		"left":  mostDeep(func(int) bool { return true }),
		"right": mostDeep(func(int) bool { return false }),
		"both":  mostDeep(func(i int) bool { return i%2 == 0 }),
	}
}
