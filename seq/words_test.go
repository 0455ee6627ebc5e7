package seq_test

import (
	"math/bits"
	"math/rand"
	"strconv"
	"strings"
	"testing"

	"larch/api"
	"larch/seq"
	"larch/steps"
	"larch/table"
)

// What the chapter says, of trees made of pointers: the cases of the step stand here as texts, a right side is told by mirroring, and each step is done on the whole table. The tests hold the package against it.

// tree is a node of the tree of the keys with its two sides, or a leaf (both nil); nil is the tree of an empty map.
type tree struct {
	key, weight, val int
	left, right      *tree
}

func (x *tree) isLeaf() bool { return x.left == nil }

func leaf(key, weight, val int) *tree { return &tree{key: key, weight: weight, val: val} }

func inner(key, weight int, left, right *tree) *tree {
	return &tree{key: key, weight: weight, left: left, right: right}
}

func (x *tree) weighing(weight int) *tree {
	return &tree{x.key, weight, x.val, x.left, x.right}
}

func (x *tree) mirror() *tree {
	if x == nil {
		return nil
	}
	return &tree{x.key, x.weight, x.val, x.right.mirror(), x.left.mirror()}
}

// leaves: from left to right.
func (x *tree) leaves() []*tree {
	if x == nil {
		return nil
	}
	if x.isLeaf() {
		return []*tree{x}
	}
	return append(x.left.leaves(), x.right.leaves()...)
}

func (x *tree) text() string {
	s := "(" + strconv.Itoa(x.key) + ":" + strconv.Itoa(x.weight)
	if x.isLeaf() {
		return s + "=" + strconv.Itoa(x.val) + ")"
	}
	return s + " " + x.left.text() + " " + x.right.text() + ")"
}

// table: below the crown, numbered from the root on.
func (x *tree) table() []api.Node {
	if x == nil {
		return []api.Node{inf(1, 2), inf(-1, -1), inf(-1, -1)}
	}
	t := x.behind([]api.Node{inf(1, -1), inf(2, -1)})
	t[1].Right, t[0].Right = len(t), len(t)+1
	return append(t, inf(-1, -1), inf(-1, -1))
}

func inf(left, right int) api.Node { return api.Node{Inf: 1, Weight: 1, Left: left, Right: right} }

func (x *tree) behind(t []api.Node) []api.Node {
	place := len(t)
	t = append(t, api.Node{Key: x.key, Weight: x.weight, Val: x.val, Left: -1, Right: -1})
	if !x.isLeaf() {
		left := len(t)
		t = x.left.behind(t)
		right := len(t)
		t = x.right.behind(t)
		t[place].Left, t[place].Right = left, right
	}
	return t
}

// treeOf: the tree of the keys of a table, and its nodes' places.
func treeOf(t []api.Node, places map[*tree]int) *tree {
	root, e := table.Root(t)
	if e != api.OK {
		return nil
	}
	return treeAt(t, root, places)
}

func treeAt(t []api.Node, place int, places map[*tree]int) *tree {
	n := t[place]
	x := &tree{key: n.Key, weight: n.Weight, val: n.Val}
	places[x] = place
	if n.Left != -1 {
		x.left, x.right = treeAt(t, n.Left, places), treeAt(t, n.Right, places)
	}
	return x
}

// isFit: the chapter's words, of a tree of keys below a crown.
func (x *tree) isFit() bool {
	if x == nil {
		return true
	}
	for _, l := range x.leaves() {
		if x.end(l.key) != l || l.weight < 1 || x.sumTo(l.key) != x.sumTo(x.leaves()[0].key) {
			return false
		}
	}
	return x.weight == 1
}

// path: what a search passes.
func (x *tree) path(key int) []*tree {
	if x == nil {
		return nil
	}
	next := x.right
	if key < x.key {
		next = x.left
	}
	return append([]*tree{x}, next.path(key)...)
}

func (x *tree) end(key int) *tree {
	path := x.path(key)
	return path[len(path)-1]
}

func (x *tree) sumTo(key int) int {
	sum := 0
	for _, n := range x.path(key) {
		sum += n.weight
	}
	return sum
}

// violations: below a parent of that weight.
func (x *tree) violations(parent int) int {
	if x == nil {
		return 0
	}
	n := max(x.weight-1, 0) + x.left.violations(x.weight) + x.right.violations(x.weight)
	if x.weight == 0 && parent == 0 {
		n++
	}
	return n
}

// rule is one case: what it asks of the weights, and the step; x is the node at which it is done.
type rule struct {
	ask string
	m   steps.Move
}

// cases of the step at f, v being its left child l; the first one that holds. Those without a step are red below f.
func cases() []rule {
	return []rule{
		{"l=0", steps.Move{}},
		{"l>1 r=0 x=0", steps.Move{}},
		{"l>1 r=0 x>0 rl=0 rr=0", steps.Move{Kind: steps.RB1, Mirror: true}},
		{"l>1 r=0 x>0 rl=0", steps.Move{Kind: steps.RB2, Mirror: true}},
		{"l>1 r=0 x>0 rl>1", steps.Move{Kind: steps.W1}},
		{"l>1 r=0 x>0 rl=1 rlr=0", steps.Move{Kind: steps.W4}},
		{"l>1 r=0 x>0 rl=1 rll=0", steps.Move{Kind: steps.W3}},
		{"l>1 r=0 x>0 rl=1", steps.Move{Kind: steps.W2}},
		{"l>1 r=1 rr=0", steps.Move{Kind: steps.W5}},
		{"l>1 r=1 rl=0", steps.Move{Kind: steps.W6}},
		{"l>1 r=1", steps.Move{Kind: steps.PUSH}},
		{"l>1 r>1", steps.Move{Kind: steps.W7}},
	}
}

// reds are the cases of red below f, at e, f being its left child l.
func reds() []rule {
	return []rule{{"r=0", steps.Move{Kind: steps.BLK}}, {"ll=0", steps.Move{Kind: steps.RB1}}, {"x>0", steps.Move{Kind: steps.RB2}}}
}

// at: the node of a path, x itself of "x".
func (x *tree) at(path string) *tree {
	for _, side := range strings.TrimPrefix(path, "x") {
		if side == 'l' {
			x = x.left
		} else {
			x = x.right
		}
	}
	return x
}

func (x *tree) holds(ask string) bool {
	for _, one := range strings.Fields(ask) {
		sign := strings.IndexAny(one, "=>")
		bound, _ := strconv.Atoi(one[sign+1:])
		weight := x.at(one[:sign]).weight
		if one[sign] == '=' && weight != bound || one[sign] == '>' && weight <= bound {
			return false
		}
	}
	return true
}

// first: which of the rules holds first at x, and its step, for a child on its left, or, by mirroring, on its right.
func (x *tree) first(rules []rule, child *tree) (int, steps.Move) {
	mirrored := x.right == child
	y := x
	if mirrored {
		y = x.mirror()
	}
	for i, r := range rules {
		if y.holds(r.ask) {
			r.m.Mirror = r.m.Mirror != mirrored && r.m.Kind != steps.BLK && r.m.Kind != steps.W7
			return i, r.m
		}
	}
	panic("no case holds at " + x.text())
}

// next: the node of the step and the step; and a name for the case. nil: the path is clean.
func (x *tree) next(key int) (*tree, steps.Move, string) {
	path := x.path(key)
	for i, v := range path {
		if v.weight <= 1 && (i == 0 || v.weight > 0 || path[i-1].weight > 0) {
			continue
		}
		f := path[i-1]
		side := " left"
		if f.right == v {
			side = " right"
		}
		n, m := f.first(cases(), v)
		name := strconv.Itoa(n) + side
		if m.Kind == 0 {
			f, v = path[i-2], f
			n, m = f.first(reds(), v)
			name += " red " + strconv.Itoa(n) + ", its mirror " + strconv.FormatBool(f.right == v)
		}
		return f, m, name
	}
	return nil, steps.Move{}, ""
}

// changed: the tree behind the operation, and whether a key came or went; parent is the parent's weight, if there is one.
func (x *tree) changed(o api.Op, isRoot bool) (*tree, bool) {
	puts := o.Kind == api.Put || o.Kind == api.PutIfAbsent
	if x == nil {
		if puts {
			return leaf(o.Key, 1, o.Val), true
		}
		return nil, false
	}
	if x.isLeaf() {
		return x.changedLeaf(o, puts, isRoot)
	}
	sides := [2]*tree{x.left, x.right}
	side := 0
	if o.Key >= x.key {
		side = 1
	}
	with, dirty := sides[side].changed(o, false)
	if with == nil { // the leaf went
		s := sides[1-side]
		if isRoot {
			return s.weighing(1), true
		}
		return s.weighing(x.weight + s.weight), true
	}
	sides[side] = with
	return inner(x.key, x.weight, sides[0], sides[1]), dirty
}

func (x *tree) changedLeaf(o api.Op, puts, isRoot bool) (*tree, bool) {
	there := x.key == o.Key
	switch {
	case there && o.Kind == api.Put:
		return leaf(x.key, x.weight, o.Val), false
	case there && o.Kind == api.Delete:
		return nil, true
	case !there && puts:
		weight := x.weight - 1
		if isRoot {
			weight = 1
		}
		fresh, old := leaf(o.Key, 1, o.Val), x.weighing(1)
		if o.Key < x.key {
			return inner(x.key, weight, fresh, old), true
		}
		return inner(o.Key, weight, old, fresh), true
	}
	return x, false
}

// cleaned: the table behind at most so many steps, each done by layer 18 on the whole table; these; is the path clean?
func cleaned(t []api.Node, key, most int) ([]api.Node, []seq.Turn, bool) {
	t, _ = table.Norm(t)
	var turns []seq.Turn
	for {
		places := map[*tree]int{}
		at, m, _ := treeOf(t, places).next(key)
		if at == nil || len(turns) == most {
			return t, turns, at == nil
		}
		turns = append(turns, seq.Turn{At: places[at], Move: m})
		var e api.Errno
		if t, e = steps.Do(t, places[at], m); e != api.OK {
			panic("a step that can't be done")
		}
	}
}

// done: the table behind the operation and its cleaning, the steps.
func done(t []api.Node, o api.Op) ([]api.Node, []seq.Turn) {
	x, dirty := treeOf(t, map[*tree]int{}).changed(o, true)
	t = x.table()
	if !dirty {
		return t, nil
	}
	t, turns, _ := cleaned(t, o.Key, seq.MaxTurns)
	return t, turns
}

// someFit: of so many leaves, their keys from lo on, two apart; any weights that are even.
func someFit(r *rand.Rand, lo, leaves int) *tree {
	if leaves == 0 {
		return nil
	}
	x := somePart(r, lo, leaves, 1+r.Intn(7))
	return x.weighing(1)
}

// somePart: the sum of the weights to each leaf is that.
func somePart(r *rand.Rand, lo, leaves, sum int) *tree {
	if leaves == 1 {
		return leaf(lo, sum, r.Intn(9))
	}
	weight := min([]int{0, 0, 0, 1, 1, 1, 1, 2, 3}[r.Intn(9)], sum-1)
	n := 1 + r.Intn(leaves-1)
	return inner(lo+2*n-r.Intn(2), weight, somePart(r, lo, n, sum-weight), somePart(r, lo+2*n, leaves-n, sum-weight))
}

// allFit: all trees of so many leaves whose weights below the root add up to that, the root's being 1.
func allFit(lo, leaves, sum int) []*tree {
	if leaves == 1 {
		return []*tree{leaf(lo, 1, 10*lo)}
	}
	var all []*tree
	for _, x := range allParts(lo, leaves, sum) {
		if x.weight == 0 { // each shape once
			all = append(all, x.weighing(1))
		}
	}
	return all
}

func allParts(lo, leaves, sum int) []*tree {
	if leaves == 1 {
		return []*tree{leaf(lo, sum, 10*lo)}
	}
	var all []*tree
	for weight := range sum { // a leaf below it has at least 1
		for n := 1; n < leaves; n++ {
			for _, left := range allParts(lo, n, sum-weight) {
				for _, right := range allParts(lo+2*n, leaves-n, sum-weight) {
					all = append(all, inner(lo+2*n, weight, left, right))
				}
			}
		}
	}
	return all
}

// evenTree: of so many leaves, as low as can be, without a violation; their keys from lo on.
func evenTree(lo, leaves, sum int) *tree {
	if leaves == 1 {
		return leaf(lo, sum, lo)
	}
	weight := 1
	if bits.Len(uint(leaves)) > sum {
		weight = 0
	}
	n := leaves / 2
	return inner(lo+n, weight, evenTree(lo, n, sum-weight), evenTree(lo+n, leaves-n, sum-weight))
}

// shuffled: the same table with its places numbered by chance, the root's 0; and where each place has come.
func shuffled(r *rand.Rand, t []api.Node) ([]api.Node, []int) {
	at := []int{0}
	for _, place := range r.Perm(len(t) - 1) {
		at = append(at, place+1)
	}
	odd := make([]api.Node, len(t))
	for place, n := range t {
		if n.Left != -1 {
			n.Left, n.Right = at[n.Left], at[n.Right]
		}
		odd[at[place]] = n
	}
	return odd, at
}

// read: the table of a text of the tree of the keys; "" is an empty map.
func read(t *testing.T, keys string) []api.Node {
	t.Helper()
	if keys == "" {
		return table.Empty()
	}
	n, e := table.Read("(inf:1 (inf:1 " + keys + " (inf:1)) (inf:1))")
	if e != api.OK {
		t.Fatalf("%s is no tree: %d", keys, e)
	}
	return n
}

func put(key, val int) api.Op { return api.Op{Kind: api.Put, Key: key, Val: val} }

func absent(key, val int) api.Op { return api.Op{Kind: api.PutIfAbsent, Key: key, Val: val} }

func del(key int) api.Op { return api.Op{Kind: api.Delete, Key: key} }

// someOp: of any kind, its key near to those of a tree of so many leaves.
func someOp(r *rand.Rand, leaves int) api.Op {
	return api.Op{Kind: []int{1, 2, 2, 3, 4, 4, 4, 5, 6, 7, 8, 9}[r.Intn(12)], Key: r.Intn(2*leaves+4) - 2, Val: r.Intn(100), Hi: r.Intn(2*leaves+4) - 2}
}
