package chain

import (
	"larch/api"
	"larch/cell"
	"larch/llx"
	"larch/record"
)

// Each change is one try: if a link doesn't fit, or the SCX fails, it answers false, and whoever made it walks again.

// link: an LLX of r; does it fit?
func link(g cell.Gate, r *part) (linked, bool) {
	l, code := llx.LLX(g, r)
	return l, code == llx.Done
}

// linkAhead: a link of p; does it fit, with n next to it?
func linkAhead(g cell.Gate, p, n *part) (linked, bool) {
	l, fits := link(g, p)
	return l, fits && l.Fields[0] == n
}

// linkTo: the links of the head and of all items up to hi; do they all fit?
func (c *Chain) linkTo(g cell.Gate, hi int) ([]linked, bool) {
	var links []linked
	for r := c.head; ; {
		l, fits := link(g, r)
		if !fits {
			return nil, false
		}
		links = append(links, l)
		r = l.Fields[0]
		if !isItem(r) || r.Data.Key > hi {
			return links, true
		}
	}
}

// insert: a new item comes between p and n.
func insert(g cell.Gate, p, n *part, pair api.Pair) bool {
	ahead, fits := linkAhead(g, p, n)
	if !fits {
		return false
	}
	return llx.SCX(g, []linked{ahead}, []bool{false}, 0, 0, record.New(pair, n))
}

// replace: a new item comes in the place of n.
func replace(g cell.Gate, p, n *part, pair api.Pair) bool {
	ahead, fits := linkAhead(g, p, n)
	if !fits {
		return false
	}
	old, fits := link(g, n)
	if !fits {
		return false
	}
	return llx.SCX(g, []linked{ahead, old}, []bool{false, true}, 0, 0, record.New(pair, old.Fields[0]))
}

// remove: n goes. What comes next goes too, and a copy of it comes in its place: it stood in a field before, and nothing may come into a field twice (K6).
func remove(g cell.Gate, p, n *part) bool {
	ahead, fits := linkAhead(g, p, n)
	if !fits {
		return false
	}
	old, fits := link(g, n)
	if !fits {
		return false
	}
	next, fits := link(g, old.Fields[0])
	if !fits {
		return false
	}
	return llx.SCX(g, []linked{ahead, old, next}, []bool{false, true, true}, 0, 0, record.New(next.R.Data, next.Fields...))
}
