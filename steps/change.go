package steps

import "larch/api"

// change is a move that is being done: what the table was, and a copy that is rewritten. Each node that a step puts has the key of one that it takes out, and none of them twice: so a place keeps its key, and has its weight and its children changed.
type change struct {
	site
	to []api.Node
}

// build does what the kind says (K13), all but the weight of the root of the keys; it answers the place of what stands at the top.
func (c *change) build(kind int) int {
	wx := c.weight(c.x)
	switch kind {
	case BLK:
		return c.over(c.x, wx-1, c.with(c.l, 1), c.with(c.r, 1))
	case RB1:
		return c.over(c.l, wx, c.ll, c.over(c.x, 0, c.lr, c.r))
	case RB2:
		lrl, lrr := c.below(c.lr)
		return c.over(c.lr, wx, c.over(c.l, 0, c.ll, lrl), c.over(c.x, 0, lrr, c.r))
	case PUSH:
		return c.over(c.x, wx+1, c.less(c.l), c.with(c.r, 0))
	case W1:
		return c.over(c.r, wx, c.over(c.x, 1, c.less(c.l), c.less(c.rl)), c.rr)
	case W2:
		return c.over(c.r, wx, c.over(c.x, 1, c.less(c.l), c.with(c.rl, 0)), c.rr)
	case W3:
		rlll, rllr := c.below(c.rll)
		return c.over(c.r, wx, c.over(c.rll, 0, c.over(c.x, 1, c.less(c.l), rlll), c.over(c.rl, 1, rllr, c.rlr)), c.rr)
	case W4:
		return c.over(c.r, wx, c.over(c.rl, 0, c.over(c.x, 1, c.less(c.l), c.rll), c.with(c.rlr, 1)), c.rr)
	case W5:
		return c.over(c.r, wx, c.over(c.x, 1, c.less(c.l), c.rl), c.with(c.rr, 1))
	case W6:
		return c.over(c.rl, wx, c.over(c.x, 1, c.less(c.l), c.rll), c.over(c.r, 1, c.rlr, c.rr))
	case W7:
		return c.over(c.x, wx+1, c.less(c.l), c.less(c.r))
	}
	return c.with(c.x, 1) // ROOT
}

// over puts a node with its own key, another weight and these children.
func (c *change) over(place, weight, left, right int) int {
	n := &c.to[place]
	n.Left, n.Right = c.turned(left, right)
	return c.with(place, weight)
}

// with gives a node another weight.
func (c *change) with(place, weight int) int {
	c.to[place].Weight = weight
	return place
}

func (c *change) less(place int) int { return c.with(place, c.weight(place)-1) }

// hang lets the node above x lead to what stands in x's place.
func (c *change) hang(top int) {
	for place, n := range c.t {
		if n.Left == c.x {
			c.to[place].Left = top
		} else if n.Right == c.x {
			c.to[place].Right = top
		}
	}
}
