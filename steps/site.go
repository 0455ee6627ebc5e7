package steps

import "larch/api"

// none is the place of a node that isn't there.
const none = -1

// site is a node x with those below it, as a move sees them: of a mirror left and right are exchanged.
type site struct {
	t      []api.Node
	root   int // of the keys
	mirror bool

	x, l, r, ll, lr, rl, rr, rll, rlr int // places; none where a leaf has no children
}

func siteAt(t []api.Node, root, at int, mirror bool) site {
	s := site{t: t, root: root, mirror: mirror, x: at}
	s.l, s.r = s.below(s.x)
	s.ll, s.lr = s.below(s.l)
	s.rl, s.rr = s.below(s.r)
	s.rll, s.rlr = s.below(s.rl)
	return s
}

// below: a node's children.
func (s *site) below(place int) (int, int) {
	if place == none {
		return none, none
	}
	return s.turned(s.t[place].Left, s.t[place].Right)
}

// turned: two that stand beside each other, exchanged for a mirror. It leads both from the tree to the move's view and back.
func (s *site) turned(left, right int) (int, int) {
	if s.mirror {
		return right, left
	}
	return left, right
}

// weight: of no node one for which no condition holds.
func (s *site) weight(place int) int {
	if place == none {
		return -1
	}
	return s.t[place].Weight
}

func (s *site) isInner(place int) bool {
	left, _ := s.below(place)
	return left != none
}

// allows: do the conditions of the kind hold (K13), and has a node children where the result names them?
func (s *site) allows(kind int) bool {
	w := s.weight
	switch kind {
	case BLK:
		return w(s.l) == 0 && w(s.r) == 0 && w(s.x) > 0 && (w(s.ll) == 0 || w(s.lr) == 0 || w(s.rl) == 0 || w(s.rr) == 0)
	case RB1:
		return w(s.x) > 0 && w(s.l) == 0 && w(s.ll) == 0 && w(s.r) > 0
	case RB2:
		return w(s.x) > 0 && w(s.l) == 0 && w(s.lr) == 0 && w(s.ll) > 0 && w(s.r) > 0 && s.isInner(s.lr)
	case PUSH:
		return w(s.l) > 1 && w(s.r) == 1 && w(s.rl) > 0 && w(s.rr) > 0
	case W1:
		return w(s.l) > 1 && w(s.r) == 0 && w(s.rl) > 1
	case W2:
		return w(s.l) > 1 && w(s.r) == 0 && w(s.rl) == 1 && w(s.rll) > 0 && w(s.rlr) > 0
	case W3:
		return w(s.l) > 1 && w(s.r) == 0 && w(s.rl) == 1 && w(s.rll) == 0 && w(s.rlr) > 0 && s.isInner(s.rll)
	case W4:
		return w(s.l) > 1 && w(s.r) == 0 && w(s.rl) == 1 && w(s.rlr) == 0
	case W5:
		return w(s.l) > 1 && w(s.r) == 1 && w(s.rr) == 0
	case W6:
		return w(s.l) > 1 && w(s.r) == 1 && w(s.rl) == 0 && w(s.rr) > 0 && s.isInner(s.rl)
	case W7:
		return w(s.l) > 1 && w(s.r) > 1
	}
	return s.x == s.root && w(s.x) != 1 // ROOT
}

// takenOut: the places of the nodes that the kind replaces, from above downwards, of one depth from left to right.
func (s *site) takenOut(kind int) []int {
	left, right := s.turned(s.l, s.r)
	switch kind {
	case RB1:
		return []int{s.x, s.l}
	case RB2:
		return []int{s.x, s.l, s.lr}
	case W1, W2, W6:
		return []int{s.x, left, right, s.rl}
	case W3:
		return []int{s.x, left, right, s.rl, s.rll}
	case W4:
		return []int{s.x, left, right, s.rl, s.rlr}
	case W5:
		return []int{s.x, left, right, s.rr}
	case ROOT:
		return []int{s.x}
	}
	return []int{s.x, left, right} // BLK, PUSH, W7
}
