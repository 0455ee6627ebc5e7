package chroma

import (
	"larch/edit"
	"larch/node"
)

// The steps of K13, in its letters. Each has been chosen by its conditions; what is still open is whether there are children where it wants them, and whether the nodes that it takes out can be linked.

func (s *site) blk(x, l, r *node.Node) {
	s.swap(s.row(x, l, r), func() *node.Node {
		return s.inner(x, s.top(weight(x)-1), s.copy(l, 1), s.copy(r, 1))
	})
}

// rotate: l and one of its children have weight 0, and r has more: RB1 or RB2.
func (s *site) rotate(x, l, r *node.Node) {
	if ll, _ := s.kids(l); weight(ll) == 0 {
		s.rb1(x, l, r)
	} else {
		s.rb2(x, l, r)
	}
}

func (s *site) rb1(x, l, r *node.Node) {
	ll, lr := s.kids(l)
	s.swap([]*node.Node{x, l}, func() *node.Node {
		return s.inner(l, s.top(weight(x)), ll, s.inner(x, 0, lr, r))
	})
}

func (s *site) rb2(x, l, r *node.Node) {
	ll, lr := s.kids(l)
	lrl, lrr := s.kids(lr)
	s.swap([]*node.Node{x, l, lr}, func() *node.Node {
		return s.inner(lr, s.top(weight(x)), s.inner(l, 0, ll, lrl), s.inner(x, 0, lrr, r))
	})
}

func (s *site) push(x, l, r *node.Node) {
	s.swap(s.row(x, l, r), func() *node.Node {
		return s.inner(x, s.top(weight(x)+1), s.lighter(l), s.copy(r, 0))
	})
}

func (s *site) w1(x, l, r *node.Node) {
	rl, rr := s.kids(r)
	s.swap(s.row(x, l, r, rl), func() *node.Node {
		return s.inner(r, s.top(weight(x)), s.inner(x, 1, s.lighter(l), s.lighter(rl)), rr)
	})
}

func (s *site) w2(x, l, r *node.Node) {
	rl, rr := s.kids(r)
	s.swap(s.row(x, l, r, rl), func() *node.Node {
		return s.inner(r, s.top(weight(x)), s.inner(x, 1, s.lighter(l), s.copy(rl, 0)), rr)
	})
}

func (s *site) w3(x, l, r *node.Node) {
	rl, rr := s.kids(r)
	rll, rlr := s.kids(rl)
	rlll, rllr := s.kids(rll)
	s.swap(s.row(x, l, r, rl, rll), func() *node.Node {
		return s.inner(r, s.top(weight(x)), s.inner(rll, 0, s.inner(x, 1, s.lighter(l), rlll), s.inner(rl, 1, rllr, rlr)), rr)
	})
}

func (s *site) w4(x, l, r *node.Node) {
	rl, rr := s.kids(r)
	rll, rlr := s.kids(rl)
	s.swap(s.row(x, l, r, rl, rlr), func() *node.Node {
		return s.inner(r, s.top(weight(x)), s.inner(rl, 0, s.inner(x, 1, s.lighter(l), rll), s.copy(rlr, 1)), rr)
	})
}

func (s *site) w5(x, l, r *node.Node) {
	rl, rr := s.kids(r)
	s.swap(s.row(x, l, r, rr), func() *node.Node {
		return s.inner(r, s.top(weight(x)), s.inner(x, 1, s.lighter(l), rl), s.copy(rr, 1))
	})
}

func (s *site) w6(x, l, r *node.Node) {
	rl, rr := s.kids(r)
	rll, rlr := s.kids(rl)
	s.swap(s.row(x, l, r, rl), func() *node.Node {
		return s.inner(rl, s.top(weight(x)), s.inner(x, 1, s.lighter(l), rll), s.inner(r, 1, rlr, rr))
	})
}

func (s *site) w7(x, l, r *node.Node) {
	s.swap(s.row(x, l, r), func() *node.Node {
		return s.inner(x, s.top(weight(x)+1), s.lighter(l), s.lighter(r))
	})
}

// row: the nodes that a step takes out, from above downwards; those of one depth, which are l and r alone, as they stand in the tree.
func (s *site) row(x, l, r *node.Node, deeper ...*node.Node) []*node.Node {
	if s.mirror {
		l, r = r, l
	}
	return append([]*node.Node{x, l, r}, deeper...)
}

// swap tries the step: what top makes comes in the place of the first of those that are taken out.
func (s *site) swap(out []*node.Node, top func() *node.Node) {
	if s.bare {
		return
	}
	links := []edit.Linked{s.link(s.up)}
	for _, n := range out {
		links = append(links, s.link(n))
	}
	if !s.over {
		s.Swap(links, s.key, top())
		s.over = true
	}
}

// top: the weight of what comes in x's place.
func (s *site) top(weight int) int { return weighed(s.up, weight) }

// inner: a new inner node with the key of n.
func (s *site) inner(n *node.Node, weight int, first, second *node.Node) *node.Node {
	if s.mirror {
		first, second = second, first
	}
	return node.Inner(n.Data.Key, n.Data.Inf, weight, first, second)
}

// copy: n anew, with another weight.
func (s *site) copy(n *node.Node, weight int) *node.Node { return edit.Copy(s.link(n), weight) }

func (s *site) lighter(n *node.Node) *node.Node { return s.copy(n, weight(n)-1) }
