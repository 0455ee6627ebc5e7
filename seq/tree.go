package seq

import (
	"larch/api"
	"larch/model"
	"larch/table"
)

// tree is a fit table that is being changed. A node stays at its place, whatever stands above it; a place that nothing leads to any more stays unused, so that an operation takes no longer than its path is.
type tree struct {
	nodes []api.Node
	sizes []int // by place: how many nodes there are from it on down
}

// How many nodes a path to a leaf has that ends at ..
const (
	toEmpty = 2 // the leaf of an empty map
	toRoot  = 3 // the root of the keys
)

func isLeaf(n api.Node) bool { return n.Left == -1 }

// sentinel: a leaf of the crown.
func sentinel() api.Node { return api.Node{Inf: 1, Weight: 1, Left: -1, Right: -1} }

// plant: the tree of a table that is fit.
func plant(t []api.Node) *tree {
	nodes, _ := table.Norm(t)
	sizes := make([]int, len(nodes))
	for place := len(nodes) - 1; place >= 0; place-- { // numbered from the root on, children stand behind their parent
		sizes[place] = 1
		if n := nodes[place]; !isLeaf(n) {
			sizes[place] += sizes[n.Left] + sizes[n.Right]
		}
	}
	return &tree{nodes, sizes}
}

// table: numbered from the root on.
func (t *tree) table() []api.Node {
	out := make([]api.Node, 0, t.sizes[0])
	for ahead := []int{0}; len(ahead) > 0; { // doesn't call itself, since a tree can be deep
		n := t.nodes[ahead[len(ahead)-1]]
		ahead = ahead[:len(ahead)-1]
		if !isLeaf(n) {
			ahead = append(ahead, n.Right, n.Left)
			left := len(out) + 1
			n.Left, n.Right = left, left+t.sizes[n.Left]
		}
		out = append(out, n)
	}
	return out
}

func (t *tree) weight(place int) int { return t.nodes[place].Weight }

// toward: the child of an inner node to which a search for the key goes.
func (t *tree) toward(place, key int) int {
	n := t.nodes[place]
	if n.Inf == 1 || key < n.Key {
		return n.Left
	}
	return n.Right
}

// path: what a search for the key passes, from the root to a leaf.
func (t *tree) path(key int) []int {
	place := 0
	path := []int{place}
	for !isLeaf(t.nodes[place]) {
		place = t.toward(place, key)
		path = append(path, place)
	}
	return path
}

// rank: the place that the last node of a path from the root has in the table numbered from the root on.
func (t *tree) rank(path []int) int {
	rank := 0
	for i, place := range path[1:] {
		rank++
		if up := t.nodes[path[i]]; up.Right == place {
			rank += t.sizes[up.Left]
		}
	}
	return rank
}

// grow: so many nodes more stand below each of these.
func (t *tree) grow(places []int, more int) {
	for _, place := range places {
		t.sizes[place] += more
	}
}

// do: the change, and the steps that it takes till the key's path is clean.
func (t *tree) do(o api.Op) ([]Turn, api.Errno) {
	dirty, e := t.change(o)
	if e != api.OK || !dirty {
		return nil, e
	}
	turns, done, e := t.clean(o.Key, MaxTurns)
	if e == api.OK && !done {
		return nil, api.ErrBig
	}
	return turns, e
}

// change: K11; has it to be cleaned?
func (t *tree) change(o api.Op) (bool, api.Errno) {
	if !model.Changes(o.Kind) {
		return false, api.OK
	}
	path := t.path(o.Key)
	leaf := &t.nodes[path[len(path)-1]]
	there := leaf.Inf == 0 && leaf.Key == o.Key
	switch {
	case o.Kind == api.Delete && there:
		return true, t.remove(path)
	case o.Kind != api.Delete && !there:
		return true, t.insert(path, o.Key, o.Val)
	case o.Kind == api.Put:
		leaf.Val = o.Val
	}
	return false, api.OK
}

// insert puts an inner node over two leaves at the place of the leaf that ends the path.
func (t *tree) insert(path []int, key, val int) api.Errno {
	if t.sizes[0]+2 > api.MaxNodes {
		return api.ErrBig
	}
	at := path[len(path)-1]
	old := t.nodes[at]
	top := api.Node{Key: old.Key, Inf: old.Inf, Weight: old.Weight - 1}
	if len(path) == toEmpty || len(path) == toRoot {
		top.Weight = 1
	}
	left, right := api.Node{Key: key, Weight: 1, Val: val, Left: -1, Right: -1}, old
	right.Weight = 1
	if old.Inf == 0 && old.Key < key {
		top.Key = key
		left, right = right, left
	}
	top.Left, top.Right = len(t.nodes), len(t.nodes)+1
	t.nodes[at] = top
	t.nodes = append(t.nodes, left, right)
	t.sizes = append(t.sizes, 1, 1)
	t.grow(path, 2)
	return api.OK
}

// remove puts the sibling of the leaf that ends the path at the place of their parent; of the last key, the crown's leaf.
func (t *tree) remove(path []int) api.Errno {
	above := path[:len(path)-1]
	up := above[len(above)-1]
	with := sentinel()
	if len(path) > toRoot {
		with = t.nodes[t.sibling(up, path[len(path)-1])]
		with.Weight += t.weight(up)
	}
	if len(above) == toRoot {
		with.Weight = 1
	}
	if with.Weight > api.MaxWeight {
		return api.ErrBig
	}
	t.nodes[up] = with
	t.grow(above, -2)
	return api.OK
}

// sibling: the other child of up.
func (t *tree) sibling(up, child int) int {
	n := t.nodes[up]
	if n.Left == child {
		return n.Right
	}
	return n.Left
}
