package scan

import (
	"math"

	"larch/api"
	"larch/cell"
	"larch/edit"
	"larch/llx"
	"larch/node"
)

// edge lies right ahead of a key, or right behind it: at the ends of the ints there is no other key to tell it by.
type edge struct {
	key    int
	behind bool
}

func lowest() edge  { return edge{key: math.MinInt} }
func highest() edge { return edge{key: math.MaxInt, behind: true} }

// isAhead: does it lie ahead of the key?
func (e edge) isAhead(key int) bool { return e.key < key || e.key == key && !e.behind }

// part is what is wanted of a tree: the pairs between two edges.
type part struct {
	from, to edge
	falling  bool // the greatest key comes first
	one      bool // what comes behind the first pair isn't wanted
}

func (p part) has(key int) bool { return p.from.isAhead(key) && !p.to.isAhead(key) }

// first: the first pair of the part, if it has one.
func (p part) first(g cell.Gate, entry *node.Node) (api.Pair, bool) {
	p.one = true
	pairs := p.pairs(g, entry)
	if len(pairs) == 0 {
		return api.Pair{}, false
	}
	return pairs[0], true
}

// pairs: those of the part, all of one moment: behind the last link and ahead of the VLX no node on the way to them was other than its link found it.
func (p part) pairs(g cell.Gate, entry *node.Node) []api.Pair {
	for k := edit.NewLinker(g); !k.Hopeless(); {
		w := &walk{part: p, ahead: []*node.Node{entry}, check: api.MaxNodes}
		if w.goOn(k) && llx.VLX(g, w.links) {
			return w.found
		}
	}
	return nil
}

// walk is one try: it goes through a part of a tree from the entry on. It doesn't call itself, since a tree can be deep.
type walk struct {
	part
	ahead []*node.Node // what it has still to come to, the next one last; nil: nothing is there
	links []edit.Linked
	found []api.Pair
	check int // with so many links it asks whether it goes in a ring
}

// goOn: to the end. False: a link was refused.
func (w *walk) goOn(k *edit.Linker) bool {
	for len(w.ahead) > 0 {
		n := w.ahead[len(w.ahead)-1]
		w.ahead = w.ahead[:len(w.ahead)-1]
		switch {
		case n == nil:
		case n.Data.Leaf:
			w.take(n)
		default:
			l, ok := k.Link(n)
			if !ok {
				return false
			}
			w.enter(l)
		}
	}
	return true
}

// take: the leaf's pair, if it is wanted.
func (w *walk) take(leaf *node.Node) {
	d := leaf.Data
	if d.Inf == 1 || !w.has(d.Key) {
		return
	}
	w.found = append(w.found, api.Pair{Key: d.Key, Val: d.Val})
	if w.one {
		w.ahead = nil
	}
}

// enter: the children of an inner node come next, as far as the part can have keys there.
func (w *walk) enter(l edit.Linked) {
	w.links = append(w.links, l)
	if w.isRound() {
		w.ahead, w.found = nil, nil
		return
	}
	if w.falling {
		w.ahead = append(w.ahead, w.left(l), w.right(l))
	} else {
		w.ahead = append(w.ahead, w.right(l), w.left(l))
	}
}

// left: the left child, if a key from the part's beginning on can lie there.
func (w *walk) left(l edit.Linked) *node.Node {
	if len(l.Fields) != 2 || !node.Below(w.from.key, l.R) {
		return nil
	}
	return l.Fields[0]
}

// right: the right child, if a key up to the part's end can lie there.
func (w *walk) right(l edit.Linked) *node.Node {
	if len(l.Fields) != 2 || node.Below(w.to.key, l.R) {
		return nil
	}
	return l.Fields[1]
}

// isRound: has it come to one node twice? In no tree, whatever is changed meanwhile, since a node that stays gets none below it but new ones; but each call has to end. It is asked seldom, and never in a tree that a table can hold.
func (w *walk) isRound() bool {
	if len(w.links) < w.check {
		return false
	}
	w.check *= 2
	met := make(map[*node.Node]struct{}, len(w.links))
	for _, l := range w.links {
		met[l.R] = struct{}{}
	}
	return len(met) < len(w.links)
}
