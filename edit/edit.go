// Package edit changes leaf-oriented trees, each change by one SCX. It is no layer: those whose trees differ in the weights of new nodes alone lean on it.
package edit

import (
	"larch/cell"
	"larch/node"
)

// Tree is a tree, and the rule by which its new nodes are weighed.
type Tree struct {
	Entry *node.Node
	Weigh func(above *node.Node, weight int) int // the weight, right below above, of a node that has this one by K11
}

// Get: the key's value.
func (t Tree) Get(g cell.Gate, key int) (int, bool) { return node.Get(g, t.Entry, key) }

// Put: the key has the value; what it had.
func (t Tree) Put(g cell.Gate, key, val int) (int, bool) {
	for s := t.begin(g, key); s.search(); {
		if s.found() {
			if s.replace(val) {
				return s.leaf.Data.Val, true
			}
		} else if s.insert(val) {
			return 0, false
		}
	}
	return 0, false
}

// PutIfAbsent: if the key has none, it has the value, and true; else what it has.
func (t Tree) PutIfAbsent(g cell.Gate, key, val int) (int, bool) {
	for s := t.begin(g, key); s.search(); {
		if s.found() {
			return s.leaf.Data.Val, false
		}
		if s.insert(val) {
			return 0, true
		}
	}
	return 0, false
}

// Delete: the key has none any more; what it had.
func (t Tree) Delete(g cell.Gate, key int) (int, bool) {
	for s := t.begin(g, key); s.search() && s.found(); {
		if s.remove() {
			return s.leaf.Data.Val, true
		}
	}
	return 0, false
}

// tries are the tries of one operation. Each of them begins with a search, and makes one change at most; false: it has made none.
type tries struct {
	*Linker
	tree                Tree
	key                 int
	leaf, parent, grand *node.Node // where the search ended
}

func (t Tree) begin(g cell.Gate, key int) *tries {
	return &tries{Linker: NewLinker(g), tree: t, key: key}
}

// search goes from the entry to the key's leaf. False: there is no use in it.
func (s *tries) search() bool {
	if s.Hopeless() {
		return false
	}
	s.leaf, s.parent, s.grand = node.Find(s.gate, s.tree.Entry, s.key)
	return s.parent != nil && s.leaf.Data.Leaf
}

// found: is the leaf the key's?
func (s *tries) found() bool {
	d := s.leaf.Data
	return d.Inf == 0 && d.Key == s.key
}

// replace: a new leaf with the value comes in the leaf's place.
func (s *tries) replace(val int) bool {
	return s.swapLeaf(node.Leaf(s.key, 0, s.leaf.Data.Weight, val))
}

// insert: in the leaf's place comes an inner node, with a new leaf and one with the old one's contents.
func (s *tries) insert(val int) bool {
	d := s.leaf.Data
	weight := s.tree.Weigh(s.parent, d.Weight-1)
	fresh, old := node.Leaf(s.key, 0, 1, val), node.Leaf(d.Key, d.Inf, 1, d.Val)
	if node.Below(s.key, s.leaf) {
		return s.swapLeaf(node.Inner(d.Key, d.Inf, weight, fresh, old))
	}
	return s.swapLeaf(node.Inner(s.key, 0, weight, old, fresh))
}

// swapLeaf: n comes in the leaf's place.
func (s *tries) swapLeaf(n *node.Node) bool {
	above, ok := s.LinkTo(s.parent, s.key, s.leaf)
	if !ok {
		return false
	}
	old, ok := s.Link(s.leaf)
	return ok && s.Swap([]Linked{above, old}, s.key, n)
}

// remove: in the parent's place comes a copy of the leaf's sibling.
func (s *tries) remove() bool {
	above, ok := s.LinkTo(s.grand, s.key, s.parent)
	if !ok {
		return false
	}
	old, ok := s.LinkTo(s.parent, s.key, s.leaf)
	if !ok {
		return false
	}
	left, ok := s.Link(old.Fields[0])
	if !ok {
		return false
	}
	right, ok := s.Link(old.Fields[1])
	if !ok {
		return false
	}
	beside := left
	if left.R == s.leaf {
		beside = right
	}
	weight := s.tree.Weigh(s.grand, s.parent.Data.Weight+beside.R.Data.Weight)
	return s.Swap([]Linked{above, old, left, right}, s.key, Copy(beside, weight))
}
