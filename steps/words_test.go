package steps_test

import (
	"cmp"
	"math/rand"
	"slices"
	"strconv"
	"strings"
	"testing"

	"larch/api"
	"larch/steps"
	"larch/table"
)

// What the document says, of trees made of pointers: K13's steps stand here as texts, and a mirror is done by mirroring the tree, then the step, then mirroring again. The tests hold the package against it.

// tree is a node of the tree of the keys with its two sides, or a leaf (both nil).
type tree struct {
	key, weight, val int
	left, right      *tree
}

func (x *tree) isLeaf() bool { return x.left == nil }

// words are a kind's: its conditions, of which those with | ask for one of several; what stands in x's place; what is taken out. A node of the result is written (whose key : weight left right), where a weight is a number or x's (with +1, -1); a path by itself is what stands there, with -1 or =n one less or n of weight.
type words struct {
	ask, give, out string
}

func wordsOf(kind int) words {
	return map[int]words{
		steps.BLK:  {"l=0 r=0 x>0 ll=0|lr=0|rl=0|rr=0", "( x:x-1 l=1 r=1 )", "x l r"},
		steps.RB1:  {"x>0 l=0 ll=0 r>0", "( l:x ll ( x:0 lr r ) )", "x l"},
		steps.RB2:  {"x>0 l=0 lr=0 ll>0 r>0", "( lr:x ( l:0 ll lrl ) ( x:0 lrr r ) )", "x l lr"},
		steps.PUSH: {"l>1 r=1 rl>0 rr>0", "( x:x+1 l-1 r=0 )", "x l r"},
		steps.W1:   {"l>1 r=0 rl>1", "( r:x ( x:1 l-1 rl-1 ) rr )", "x l r rl"},
		steps.W2:   {"l>1 r=0 rl=1 rll>0 rlr>0", "( r:x ( x:1 l-1 rl=0 ) rr )", "x l r rl"},
		steps.W3:   {"l>1 r=0 rl=1 rll=0 rlr>0", "( r:x ( rll:0 ( x:1 l-1 rlll ) ( rl:1 rllr rlr ) ) rr )", "x l r rl rll"},
		steps.W4:   {"l>1 r=0 rl=1 rlr=0", "( r:x ( rl:0 ( x:1 l-1 rll ) rlr=1 ) rr )", "x l r rl rlr"},
		steps.W5:   {"l>1 r=1 rr=0", "( r:x ( x:1 l-1 rl ) rr=1 )", "x l r rr"},
		steps.W6:   {"l>1 r=1 rl=0 rr>0", "( rl:x ( x:1 l-1 rll ) ( r:1 rlr rr ) )", "x l r rl"},
		steps.W7:   {"l>1 r>1", "( x:x+1 l-1 r-1 )", "x l r"},
	}[kind]
}

// at: the node of a path, x itself of "x"; nil, if there is none.
func (x *tree) at(path string) *tree {
	for _, side := range strings.TrimPrefix(path, "x") {
		if x == nil {
			return nil
		}
		if side == 'l' {
			x = x.left
		} else {
			x = x.right
		}
	}
	return x
}

// holds: does one of the conditions hold?
func (x *tree) holds(ask string) bool {
	for _, one := range strings.Split(ask, "|") {
		sign := strings.IndexAny(one, "=>")
		n := x.at(one[:sign])
		bound, _ := strconv.Atoi(one[sign+1:])
		if n != nil && (one[sign] == '=' && n.weight == bound || one[sign] == '>' && n.weight > bound) {
			return true
		}
	}
	return false
}

// built: what the next words of a result say, and the words behind them; nil, if they name what isn't there.
func (x *tree) built(give []string) (*tree, []string) {
	if give[0] != "(" {
		return x.taken(give[0]), give[1:]
	}
	key, weight, _ := strings.Cut(give[1], ":")
	n, w := x.at(key), x.weighing(weight)
	left, rest := x.built(give[2:])
	right, rest := x.built(rest)
	if n == nil || left == nil || right == nil {
		return nil, rest[1:]
	}
	return &tree{key: n.key, weight: w, val: n.val, left: left, right: right}, rest[1:]
}

// taken: what stands at a path; with another weight, if there's one behind it.
func (x *tree) taken(word string) *tree {
	sign := strings.IndexAny(word+"=", "-=")
	n := x.at(word[:sign])
	if n == nil || sign == len(word) {
		return n
	}
	other := *n
	if word[sign:] == "-1" {
		other.weight--
	} else {
		other.weight, _ = strconv.Atoi(word[sign+1:])
	}
	return &other
}

func (x *tree) weighing(weight string) int {
	own, is := strings.CutPrefix(weight, "x")
	n, _ := strconv.Atoi(own) // "" is 0
	if is {
		n += x.weight
	}
	return n
}

// behind: what stands in x's place behind a move; false, if it can't be done there.
func (x *tree) behind(m steps.Move, isRoot bool) (*tree, bool) {
	if m.Mirror {
		y, ok := x.mirror().behind(steps.Move{Kind: m.Kind}, isRoot)
		return y.mirror(), ok
	}
	var y *tree
	if m.Kind == steps.ROOT {
		if !isRoot || x.weight == 1 {
			return nil, false
		}
		other := *x
		y = &other
	} else {
		for _, ask := range strings.Fields(wordsOf(m.Kind).ask) {
			if !x.holds(ask) {
				return nil, false
			}
		}
		y, _ = x.built(strings.Fields(wordsOf(m.Kind).give))
	}
	if y == nil {
		return nil, false
	}
	if isRoot {
		y.weight = 1
	}
	return y, true
}

// out: the paths from x that a move takes out, in the order in which they are told.
func out(m steps.Move) []string {
	if m.Kind == steps.ROOT {
		return []string{"x"}
	}
	paths := strings.Fields(wordsOf(m.Kind).out)
	for i := range paths {
		if m.Mirror {
			paths[i] = mirrored(paths[i])
		}
	}
	slices.SortFunc(paths[1:], func(a, b string) int { return cmp.Or(len(a)-len(b), cmp.Compare(a, b)) }) // l is ahead of r
	return paths
}

// mirrored: a path with left and right exchanged.
func mirrored(path string) string { return strings.NewReplacer("l", "r", "r", "l").Replace(path) }

func (x *tree) mirror() *tree {
	if x == nil {
		return nil
	}
	return &tree{x.key, x.weight, x.val, x.right.mirror(), x.left.mirror()}
}

// all: the nodes by the tree's order.
func (x *tree) all() []*tree {
	if x == nil {
		return nil
	}
	return append(append([]*tree{x}, x.left.all()...), x.right.all()...)
}

// with: the tree in which another one stands in a node's place.
func (x *tree) with(old, new *tree) *tree {
	if x == old {
		return new
	}
	if x == nil {
		return nil
	}
	return &tree{x.key, x.weight, x.val, x.left.with(old, new), x.right.with(old, new)}
}

// text: as a table's, below the crown.
func (x *tree) text() string {
	s := "(" + strconv.Itoa(x.key) + ":" + strconv.Itoa(x.weight)
	if x.isLeaf() {
		return s + "=" + strconv.Itoa(x.val) + ")"
	}
	return s + " " + x.left.text() + " " + x.right.text() + ")"
}

// leaves: keys and values, from left to right; sums: of the weights from the root to them.
func (x *tree) leaves() []api.Pair {
	if x.isLeaf() {
		return []api.Pair{{Key: x.key, Val: x.val}}
	}
	return append(x.left.leaves(), x.right.leaves()...)
}

func (x *tree) sums(above int) []int {
	if x.isLeaf() {
		return []int{above + x.weight}
	}
	return append(x.left.sums(above+x.weight), x.right.sums(above+x.weight)...)
}

// violations: below a parent of that weight.
func (x *tree) violations(parent int) int {
	if x == nil {
		return 0
	}
	n := max(x.weight-1, 0) + x.left.violations(x.weight) + x.right.violations(x.weight)
	if x.weight == 0 && parent == 0 {
		n++
	}
	return n
}

// treeOf: what stands at a place of a table, and the places of its nodes.
func treeOf(t []api.Node, place int, places map[*tree]int) *tree {
	n := t[place]
	x := &tree{key: n.Key, weight: n.Weight, val: n.Val}
	places[x] = place
	if n.Left != -1 {
		x.left, x.right = treeOf(t, n.Left, places), treeOf(t, n.Right, places)
	}
	return x
}

// shuffled: the same table with its places numbered by chance, the root's 0.
func shuffled(r *rand.Rand, t []api.Node) []api.Node {
	at := []int{0}
	for _, place := range r.Perm(len(t) - 1) {
		at = append(at, place+1)
	}
	odd := make([]api.Node, len(t))
	for place, n := range t {
		if n.Left != -1 {
			n.Left, n.Right = at[n.Left], at[n.Right]
		}
		odd[at[place]] = n
	}
	return odd
}

// read: the table of a text of the tree of the keys; its root of the keys is place 2.
func read(t *testing.T, keys string) []api.Node {
	t.Helper()
	n, e := table.Read("(inf:1 (inf:1 " + keys + " (inf:1)) (inf:1))")
	if e != api.OK {
		t.Fatalf("%s is no tree: %d", keys, e)
	}
	return n
}

// keysText: the text of the tree of the keys.
func keysText(t *testing.T, n []api.Node) string {
	t.Helper()
	root, e := table.Root(n)
	if e != api.OK {
		t.Fatalf("%v has no crown, or no keys: %d", n, e)
	}
	keys, _ := table.Sub(n, root)
	text, _ := table.Text(keys)
	return text
}

// placeOf: of a path from a place on.
func placeOf(t []api.Node, from int, path string) int {
	places := map[*tree]int{}
	return places[treeOf(t, from, places).at(path)]
}

// someTree: of so many leaves; its keys are in order, from lo on, or by chance; weights that a step could ask for.
func someTree(r *rand.Rand, lo, leaves int, ordered bool) *tree {
	x := &tree{key: lo, weight: []int{0, 0, 0, 1, 1, 1, 2, 2, 3}[r.Intn(9)], val: r.Intn(9)}
	if leaves > 1 {
		n := 1 + r.Intn(leaves-1)
		x.key, x.val = lo+n, 0
		x.left, x.right = someTree(r, lo, n, ordered), someTree(r, lo+n, leaves-n, ordered)
	}
	if !ordered {
		x.key = r.Intn(9) - 4
	}
	return x
}

// near: the tree of a site, or nearly that, within a greater one; keys in order.
func near(r *rand.Rand, x *tree) *tree {
	for range r.Intn(3) {
		n := pick(r, x.all())
		other := *n
		other.weight = r.Intn(4)
		x = x.with(n, &other)
	}
	for range r.Intn(3) {
		old := pick(r, x.all())
		if old.isLeaf() {
			n := someTree(r, 0, 1+r.Intn(3), true)
			n.weight = old.weight
			x = x.with(old, n)
		}
	}
	around := someTree(r, 0, 1+r.Intn(6), true)
	x = around.with(pick(r, around.all()), x)
	least := -9
	x.number(&least)
	return x
}

func pick(r *rand.Rand, nodes []*tree) *tree { return nodes[r.Intn(len(nodes))] }

// number gives keys in order, and answers the least one of the tree.
func (x *tree) number(next *int) int {
	if x.isLeaf() {
		x.key = *next
		*next += 2
		return x.key
	}
	least := x.left.number(next)
	x.key = x.right.number(next)
	return least
}

// shapes: all trees of so many leaves, their keys from lo on in order.
func shapes(lo, leaves int) []*tree {
	if leaves == 1 {
		return []*tree{{key: lo, val: 10 * lo}}
	}
	var all []*tree
	for n := 1; n < leaves; n++ {
		for _, left := range shapes(lo, n) {
			for _, right := range shapes(lo+n, leaves-n) {
				all = append(all, &tree{key: lo + n, left: left, right: right})
			}
		}
	}
	return all
}

// eachWeight gives the nodes all weights from 0 to 2, in all ways.
func eachWeight(nodes []*tree, do func()) {
	if len(nodes) == 0 {
		do()
		return
	}
	for weight := range 3 {
		nodes[0].weight = weight
		eachWeight(nodes[1:], do)
	}
}
