package seq

import (
	"larch/api"
	"larch/steps"
	"larch/table"
)

// isFault: is a node a violation, below a parent of that weight? In a fit table no node of the crown is one, nor is the root of the keys.
func isFault(above, weight int) bool { return weight > 1 || weight == 0 && above == 0 }

// pathToFault: from the root to the first violation on the key's path; nil: there is none.
func (t *tree) pathToFault(key int) []int {
	place := 0
	path := []int{place}
	for !isLeaf(t.nodes[place]) {
		child := t.toward(place, key)
		path = append(path, child)
		if isFault(t.weight(place), t.weight(child)) {
			return path
		}
		place = child
	}
	return nil
}

// sides: a node's children; with mirror the right one first.
func (t *tree) sides(place int, mirror bool) (int, int) {
	n := t.nodes[place]
	if mirror {
		return n.Right, n.Left
	}
	return n.Left, n.Right
}

// next: the step for the violation that ends the path, and where on the path its node stands. The tree is fit, so there is a node wherever the chapter names one.
func (t *tree) next(path []int) (int, steps.Move) {
	w := t.weight
	last := len(path) - 1
	v, f := path[last], path[last-1]
	mirror := t.nodes[f].Right == v
	_, r := t.sides(f, mirror)
	switch {
	case w(v) == 0 || w(r) == 0 && w(f) == 0:
		return last - 2, t.redBelow(path[last-2], f)
	case w(r) == 0:
		return last - 1, t.besideRed(r, mirror)
	case w(r) == 1:
		return last - 1, t.besideOne(r, mirror)
	}
	return last - 1, steps.Move{Kind: steps.W7}
}

// redBelow: f has weight 0, as one of its children has, and e stands above it.
func (t *tree) redBelow(e, f int) steps.Move {
	mirror := t.nodes[e].Right == f
	_, beside := t.sides(e, mirror)
	outer, _ := t.sides(f, mirror)
	switch {
	case t.weight(beside) == 0:
		return steps.Move{Kind: steps.BLK}
	case t.weight(outer) == 0:
		return steps.Move{Kind: steps.RB1, Mirror: mirror}
	}
	return steps.Move{Kind: steps.RB2, Mirror: mirror}
}

// besideRed: an overweight's sibling r has weight 0. (mirror: r is the left one.)
func (t *tree) besideRed(r int, mirror bool) steps.Move {
	rl, rr := t.sides(r, mirror)
	switch {
	case t.weight(rl) == 0 && t.weight(rr) == 0:
		return steps.Move{Kind: steps.RB1, Mirror: !mirror}
	case t.weight(rl) == 0:
		return steps.Move{Kind: steps.RB2, Mirror: !mirror}
	case t.weight(rl) > 1:
		return steps.Move{Kind: steps.W1, Mirror: mirror}
	}
	rll, rlr := t.sides(rl, mirror)
	switch {
	case t.weight(rlr) == 0:
		return steps.Move{Kind: steps.W4, Mirror: mirror}
	case t.weight(rll) == 0:
		return steps.Move{Kind: steps.W3, Mirror: mirror}
	}
	return steps.Move{Kind: steps.W2, Mirror: mirror}
}

// besideOne: an overweight's sibling r has weight 1.
func (t *tree) besideOne(r int, mirror bool) steps.Move {
	rl, rr := t.sides(r, mirror)
	switch {
	case t.weight(rr) == 0:
		return steps.Move{Kind: steps.W5, Mirror: mirror}
	case t.weight(rl) == 0:
		return steps.Move{Kind: steps.W6, Mirror: mirror}
	}
	return steps.Move{Kind: steps.PUSH, Mirror: mirror}
}

// clean does the steps of the key's path, at most so many; is it clean then?
func (t *tree) clean(key, most int) ([]Turn, bool, api.Errno) {
	var turns []Turn
	for {
		path := t.pathToFault(key)
		if path == nil {
			return turns, true, api.OK
		}
		if len(turns) == most {
			return turns, false, api.OK
		}
		at, m := t.next(path)
		path = path[:at+1]
		turns = append(turns, Turn{At: t.rank(path), Move: m})
		if e := t.step(path, m); e != api.OK {
			return nil, false, e
		}
	}
}

// step does the move at the node that ends the path. What a step sees and changes lies near to that node: so it is done on a small table of these alone, of which the places in the tree are the keys.
func (t *tree) step(path []int, m steps.Move) api.Errno {
	x, up := path[len(path)-1], path[len(path)-2]
	frame, at := frameOf(len(path) == toRoot)
	near, e := table.Graft(frame, at, t.near(nil, x, sight))
	if e != api.OK {
		return e
	}
	near, e = steps.Do(near, at, m)
	if e != api.OK {
		return e
	}
	behind, e := table.Sub(near, at)
	if e != api.OK {
		return e
	}
	t.take(behind)
	if n := &t.nodes[up]; n.Left == x {
		n.Left = behind[0].Key
	} else {
		n.Right = behind[0].Key
	}
	return api.OK
}

// frameOf: a crown with something in it, and the place where a step's node is to stand: at the root of the keys, or below one, since a step gives the root of the keys another weight.
func frameOf(atRoot bool) ([]api.Node, int) {
	leaf := api.Node{Weight: 1, Left: -1, Right: -1}
	if atRoot {
		return []api.Node{{Inf: 1, Weight: 1, Left: 1, Right: 4}, {Inf: 1, Weight: 1, Left: 2, Right: 3}, leaf, sentinel(), sentinel()}, 2
	}
	return []api.Node{{Inf: 1, Weight: 1, Left: 1, Right: 6}, {Inf: 1, Weight: 1, Left: 2, Right: 5}, {Weight: 1, Left: 3, Right: 4}, leaf, leaf, sentinel(), sentinel()}, 3
}

// sight: how many edges below its node a step names another one (W3: the children of rll).
const sight = 4

// near: the nodes from a place on down, behind those that are there already; where it is too far down to be seen, an inner node is taken for a leaf.
func (t *tree) near(nodes []api.Node, place, deep int) []api.Node {
	at := len(nodes)
	nodes = append(nodes, api.Node{Key: place, Weight: t.weight(place), Left: -1, Right: -1})
	if n := t.nodes[place]; deep > 0 && !isLeaf(n) {
		nodes = t.near(nodes, n.Left, deep-1)
		right := len(nodes)
		nodes = t.near(nodes, n.Right, deep-1)
		nodes[at].Left, nodes[at].Right = at+1, right
	}
	return nodes
}

// take gives the nodes that a step saw the weights and the children that they have behind it. A node that a step puts has the key of one that it takes out: it comes to that one's place.
func (t *tree) take(behind []api.Node) {
	for i := len(behind) - 1; i >= 0; i-- { // children stand behind their parent, and their sizes come first
		place := behind[i].Key
		n := &t.nodes[place]
		n.Weight = behind[i].Weight
		if !isLeaf(behind[i]) {
			n.Left, n.Right = behind[behind[i].Left].Key, behind[behind[i].Right].Key
			t.sizes[place] = 1 + t.sizes[n.Left] + t.sizes[n.Right]
		}
	}
}
