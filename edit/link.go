package edit

import (
	"larch/cell"
	"larch/llx"
	"larch/node"
	"larch/record"
)

// Linked is what a link of a node found.
type Linked = llx.Linked[node.Item]

// forGood: so often in a row, with one and the same info, a link is refused in no tree that is in use. The first time the info may have come within the link; if it stands there all through the second one, its SCX has come to its end by then: so the next link is made, or the node has gone, and no search comes to it again.
const forGood = 3

// Linker makes the links and the changes of one operation, through a gate.
type Linker struct {
	gate    cell.Gate
	refused *node.Node // whose link was refused last, with which info, how often in a row
	info    *record.Scx[node.Item]
	times   int
	broken  bool
}

// NewLinker: one that has linked nothing.
func NewLinker(g cell.Gate) *Linker { return &Linker{gate: g} }

// Hopeless: would every further try be in vain? Only where what was handed in is no tree; each call has to end there too.
func (k *Linker) Hopeless() bool { return k.broken || k.times >= forGood }

// Link: an LLX of n. False: it failed, or n is finalized.
func (k *Linker) Link(n *node.Node) (Linked, bool) {
	l, code := llx.LLX(k.gate, n)
	if code == llx.Done {
		return l, true
	}
	if info := n.Info(k.gate); n != k.refused || info != k.info {
		k.refused, k.info, k.times = n, info, 0
	}
	k.times++
	return Linked{}, false
}

// LinkTo: a link of n. False: it is refused, or doesn't lead to the child by which the key's path went on.
func (k *Linker) LinkTo(n *node.Node, key int, child *node.Node) (Linked, bool) {
	l, ok := k.Link(n)
	if !ok {
		return Linked{}, false
	}
	if len(l.Fields) != 2 { // no inner node of a tree
		k.broken = true
		return Linked{}, false
	}
	return l, l.Fields[Side(key, n)] == child
}

// Side: the field of n by which the key's path goes on.
func Side(key int, n *node.Node) int {
	if node.Below(key, n) {
		return 0
	}
	return 1
}

// Swap: one SCX: n comes into the key's field of the first one of the links; the nodes of the others are finalized.
func (k *Linker) Swap(links []Linked, key int, n *node.Node) bool {
	final := make([]bool, len(links))
	for i := range final {
		final[i] = i > 0
	}
	return llx.SCX(k.gate, links, final, 0, Side(key, links[0].R), n)
}

// Copy: a new node with the contents of a linked one, its children too, and another weight.
func Copy(l Linked, weight int) *node.Node {
	item := l.R.Data
	item.Weight = weight
	return record.New(item, l.Fields...)
}
