package table_test

import (
	"math"
	"math/rand"
	"strconv"

	"larch/api"
)

// What the chapter says, of trees made of pointers, by functions that call themselves: the tests hold the package against it.

// tree is a node with its two sides, or a leaf (both nil). Its Left and Right count for nothing.
type tree struct {
	api.Node
	left, right *tree
}

func (x *tree) isLeaf() bool { return x.left == nil }

func leaf(key, weight, val int) *tree {
	return &tree{Node: api.Node{Key: key, Weight: weight, Val: val}}
}

func inner(key, weight int, left, right *tree) *tree {
	return &tree{api.Node{Key: key, Weight: weight}, left, right}
}

// end is a sentinel leaf; arch an inner sentinel.
func end() *tree { return &tree{Node: api.Node{Inf: 1, Weight: 1}} }

func arch(left, right *tree) *tree { return &tree{api.Node{Inf: 1, Weight: 1}, left, right} }

// crowned: the tree of the keys below the crown.
func crowned(keys *tree) *tree { return arch(arch(keys, end()), end()) }

// size: how many nodes.
func (x *tree) size() int {
	if x.isLeaf() {
		return 1
	}
	return 1 + x.left.size() + x.right.size()
}

// table: numbered from the root on.
func (x *tree) table() []api.Node { return x.behind(nil) }

func (x *tree) behind(t []api.Node) []api.Node {
	place := len(t)
	t = append(t, x.Node)
	t[place].Left, t[place].Right = -1, -1
	if !x.isLeaf() {
		left := len(t)
		t = x.left.behind(t)
		right := len(t)
		t = x.right.behind(t)
		t[place].Left, t[place].Right = left, right
	}
	return t
}

// shuffled: the same tree with its places numbered by chance, the root's 0; and where each place of the table in order has come.
func shuffled(r *rand.Rand, t []api.Node) ([]api.Node, []int) {
	at := []int{0}
	for _, place := range r.Perm(len(t) - 1) {
		at = append(at, place+1)
	}
	odd := make([]api.Node, len(t))
	for place, n := range t {
		if n.Left != -1 {
			n.Left, n.Right = at[n.Left], at[n.Right]
		}
		odd[at[place]] = n
	}
	return odd, at
}

// text as the chapter says it.
func (x *tree) text() string {
	key := strconv.Itoa(x.Key)
	if x.Inf == 1 {
		key = "inf"
	}
	s := "(" + key + ":" + strconv.Itoa(x.Weight)
	if !x.isLeaf() {
		return s + " " + x.left.text() + " " + x.right.text() + ")"
	}
	if x.Inf == 0 {
		s += "=" + strconv.Itoa(x.Val)
	}
	return s + ")"
}

func (x *tree) mirror() *tree {
	if x.isLeaf() {
		return x
	}
	return &tree{x.Node, x.right.mirror(), x.left.mirror()}
}

func (x *tree) height() int {
	if x.isLeaf() {
		return 0
	}
	return 1 + max(x.left.height(), x.right.height())
}

// all: the nodes by the tree's order.
func (x *tree) all() []*tree {
	if x.isLeaf() {
		return []*tree{x}
	}
	return append(append([]*tree{x}, x.left.all()...), x.right.all()...)
}

// search: the nodes that it passes.
func (x *tree) search(key int) []*tree {
	if x.isLeaf() {
		return []*tree{x}
	}
	next := x.right
	if x.Inf == 1 || key < x.Key {
		next = x.left
	}
	return append([]*tree{x}, next.search(key)...)
}

// isOrdered: by a search for each key.
func (x *tree) isOrdered() bool {
	for _, n := range x.all() {
		if n.isLeaf() && n.Inf == 0 {
			if path := x.search(n.Key); path[len(path)-1] != n {
				return false
			}
		}
	}
	return true
}

// grafted: with in the place of the i-th node.
func (x *tree) grafted(i int, with *tree) *tree {
	if i == 0 {
		return with
	}
	if left := x.left.size(); i <= left {
		return &tree{x.Node, x.left.grafted(i-1, with), x.right}
	} else {
		return &tree{x.Node, x.left, x.right.grafted(i-1-left, with)}
	}
}

// edges are the numbers at which something could turn.
var edges = []int{math.MinInt, math.MinInt + 1, -1, 0, 1, 2, 3, 4, math.MaxInt - 1, math.MaxInt}

func someNumber(r *rand.Rand) int { return edges[r.Intn(len(edges))] }

// someTree: of any shape, keys in any order, sentinels anywhere.
func someTree(r *rand.Rand, leaves int) *tree {
	x := &tree{Node: api.Node{Key: someNumber(r), Weight: []int{0, 1, 2, api.MaxWeight}[r.Intn(4)]}}
	if r.Intn(4) == 0 {
		x.Key, x.Inf = 0, 1
	}
	if leaves > 1 {
		left := 1 + r.Intn(leaves-1)
		x.left, x.right = someTree(r, left), someTree(r, leaves-left)
	} else if x.Inf == 0 {
		x.Val = someNumber(r)
	}
	return x
}

// orderedTree: of the keys from lo on, leaf by leaf.
func orderedTree(r *rand.Rand, lo, leaves int) *tree {
	if leaves == 1 {
		return leaf(lo, r.Intn(3), r.Intn(100))
	}
	left := 1 + r.Intn(leaves-1)
	return inner(lo+left, r.Intn(3), orderedTree(r, lo, left), orderedTree(r, lo+left, leaves-left))
}

// mostInner: a tree has one leaf more than inner nodes, so the number of its nodes is odd, and at most MaxNodes - 1.
const mostInner = (api.MaxNodes - 2) / 2

// deepTable: a tree of so many inner nodes, each with a leaf on its left or (turn) on its right, and all else on the other side; ordered, and numbered from the root on.
func deepTable(inners int, turn func(i int) bool) []api.Node {
	t := make([]api.Node, 0, 2*inners+1)
	least, most := 0, 2*inners // a leaf on the left takes the least number that is left, one on the right the greatest
	for i := range inners {
		place := len(t)
		if turn(i) { // its right leaf comes to the end of the table
			t = append(t, api.Node{Key: most, Weight: 1, Left: place + 1})
			most--
		} else {
			t = append(t, api.Node{Key: least + 1, Weight: 1, Left: place + 1, Right: place + 2}, l(least, 1, i))
			least++
		}
	}
	t = append(t, l(least, 1, 0))
	for place := len(t) - 1; place >= 0; place-- { // the innermost one comes first
		if n := t[place]; n.Left != -1 && n.Right == 0 {
			t[place].Right = len(t)
			t = append(t, l(n.Key, 1, place))
		}
	}
	return t
}

// deepTables: leaning to the left, to the right, to both in turn, and first to the one and then to the other.
func deepTables(inners int) map[string][]api.Node {
	return map[string][]api.Node{
		"left":  deepTable(inners, func(int) bool { return true }),
		"right": deepTable(inners, func(int) bool { return false }),
		"both":  deepTable(inners, func(i int) bool { return i%2 == 0 }),
		"bent":  deepTable(inners, func(i int) bool { return i < inners/2 }),
	}
}

// l, i, e: nodes of a table.
func l(key, weight, val int) api.Node {
	return api.Node{Key: key, Weight: weight, Val: val, Left: -1, Right: -1}
}

func i(key, weight, left, right int) api.Node {
	return api.Node{Key: key, Weight: weight, Left: left, Right: right}
}

func e(left, right int) api.Node { return api.Node{Inf: 1, Weight: 1, Left: left, Right: right} }

// nodes: a table.
func nodes(list ...api.Node) []api.Node { return list }

// exampleOdd is the table t of the chapter's second example, exampleNorm the same numbered from the root on.
func exampleOdd() []api.Node { return nodes(e(2, 1), e(-1, -1), e(3, 4), l(5, 1, 50), e(-1, -1)) }

func exampleNorm() []api.Node { return nodes(e(1, 4), e(2, 3), l(5, 1, 50), e(-1, -1), e(-1, -1)) }
