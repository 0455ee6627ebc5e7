package chroma

import (
	"larch/cell"
	"larch/edit"
	"larch/node"
)

// Clean: till there is no violation on the key's path.
func Clean(g cell.Gate, entry *node.Node, key int) {
	for k := edit.NewLinker(g); !k.Hopeless(); {
		path := pathToFault(g, entry, key)
		if path == nil {
			return
		}
		s := &site{Linker: k, key: key}
		if s.mend(path); !s.over {
			return // no step: what was handed in isn't fit, since the weights from a node down to its leaves add up to the same as long as it is in the tree, whenever they are found
		}
	}
}

// pathToFault: from the entry to the first violation on the key's path; nil: there is none.
func pathToFault(g cell.Gate, entry *node.Node, key int) []*node.Node {
	path := []*node.Node{entry}
	for {
		n := path[len(path)-1]
		child := toward(g, n, key)
		if child == nil || child == path[len(path)/2] { // a leaf's; or a ring, which would have no end
			return nil
		}
		path = append(path, child)
		if isFault(weight(n), weight(child)) {
			return path
		}
	}
}

// toward: the child by which the key's path goes on; nil of a leaf.
func toward(g cell.Gate, n *node.Node, key int) *node.Node {
	if node.Below(key, n) {
		return node.Left(g, n)
	}
	return node.Right(g, n)
}

// isFault: is a node a violation, below a parent of that weight? In a fit tree none of the crown is one, nor is the root of the keys.
func isFault(above, weight int) bool { return weight > 1 || weight == 0 && above == 0 }

// noWeight is below all weights.
const noWeight = -1

// weight: a condition that names a child of a leaf doesn't hold, so no node has a weight too.
func weight(n *node.Node) int {
	if n == nil {
		return noWeight
	}
	return n.Data.Weight
}

// site is where a step is tried. Its nodes are told by K13's letters: with mirror left and right are exchanged.
type site struct {
	*edit.Linker
	key    int
	links  []edit.Linked
	up     *node.Node // the node above x
	mirror bool

	over bool // a link was refused, or leads elsewhere than the path went, or they were all used up by an SCX
	bare bool // a leaf stands where children are wanted
}

// mend tries the step that layer 19 has for the violation that ends the path.
func (s *site) mend(path []*node.Node) {
	if weight(path[len(path)-1]) == 0 {
		s.redBelow(path)
	} else {
		s.overweight(path)
	}
}

// redBelow: the last but one of the path has weight 0, as one of its children has: a step at its parent.
func (s *site) redBelow(path []*node.Node) {
	near := s.stand(path, 4)
	if near == nil {
		return
	}
	x, l := near[1], near[2]
	s.mirror = edit.Side(s.key, x) == 1
	_, r := s.kids(x)
	if weight(r) == 0 {
		s.blk(x, l, r)
	} else {
		s.rotate(x, l, r)
	}
}

// overweight: the last one of the path weighs too much: a step at its parent, or above that.
func (s *site) overweight(path []*node.Node) {
	near := s.stand(path, 3)
	if near == nil {
		return
	}
	x, l := near[1], near[2]
	s.mirror = edit.Side(s.key, x) == 1
	_, r := s.kids(x)
	switch w := weight(r); {
	case w == 0 && weight(x) == 0:
		s.redBelow(path)
	case w == 0:
		s.besideRed(x, l, r)
	case w == 1:
		s.besideOne(x, l, r)
	case w > 1:
		s.w7(x, l, r)
	}
}

// besideRed: l weighs too much, r has weight 0, and x more.
func (s *site) besideRed(x, l, r *node.Node) {
	rl, _ := s.kids(r)
	switch w := weight(rl); {
	case w == 0:
		s.mirror = !s.mirror
		s.rotate(x, r, l)
	case w > 1:
		s.w1(x, l, r)
	case w == 1:
		s.besideRedOne(x, l, r, rl)
	}
}

// besideRedOne: l weighs too much, r has weight 0, and its child rl 1.
func (s *site) besideRedOne(x, l, r, rl *node.Node) {
	rll, rlr := s.kids(rl)
	switch {
	case weight(rlr) == 0:
		s.w4(x, l, r)
	case weight(rll) == 0:
		s.w3(x, l, r)
	default:
		s.w2(x, l, r)
	}
}

// besideOne: l weighs too much, and r has weight 1.
func (s *site) besideOne(x, l, r *node.Node) {
	rl, rr := s.kids(r)
	switch {
	case weight(rr) == 0:
		s.w5(x, l, r)
	case weight(rl) == 0:
		s.w6(x, l, r)
	default:
		s.push(x, l, r)
	}
}

// stand: the last so many nodes of the path; each but the last one is linked, and leads to the next; the first one is up. nil: they don't, or the step's node would be one of the crown.
func (s *site) stand(path []*node.Node, many int) []*node.Node {
	from := len(path) - many
	if from < 1 {
		return nil
	}
	near := path[from:]
	for i, child := range near[1:] {
		if !s.leads(near[i], child) {
			return nil
		}
	}
	s.up = near[0]
	return near
}

// leads: is the child the one by which the key's path goes on at n?
func (s *site) leads(n, child *node.Node) bool {
	fields, side := s.link(n).Fields, edit.Side(s.key, n)
	if side >= len(fields) || fields[side] != child {
		s.over = true
	}
	return !s.over
}

// link: the node's link; in one try it is made once.
func (s *site) link(n *node.Node) edit.Linked {
	for _, l := range s.links {
		if l.R == n {
			return l
		}
	}
	if s.over {
		return edit.Linked{}
	}
	l, ok := s.Link(n)
	if !ok {
		s.over = true
		return edit.Linked{}
	}
	s.links = append(s.links, l)
	return l
}

// kids: the children of n by its link, that on l's side first. None: the step can't be done.
func (s *site) kids(n *node.Node) (*node.Node, *node.Node) {
	if s.bare {
		return nil, nil
	}
	fields := s.link(n).Fields
	if len(fields) != 2 {
		s.bare = true
		return nil, nil
	}
	if s.mirror {
		return fields[1], fields[0]
	}
	return fields[0], fields[1]
}
