package node

import (
	"larch/api"
	"larch/cell"
	"larch/table"
)

// Make: the nodes of a table; the entry.
func Make(t []api.Node) (*Node, api.Errno) {
	nodes, e := made(t)
	if e != api.OK {
		return nil, e
	}
	return nodes[0], api.OK
}

// made: the nodes of a table, by their places in the table numbered from the root on.
func made(t []api.Node) ([]*Node, api.Errno) {
	norm, e := table.Norm(t)
	if e != api.OK {
		return nil, e
	}
	nodes := make([]*Node, len(norm))
	for place := len(norm) - 1; place >= 0; place-- { // so numbered, children stand behind their parent
		n := norm[place]
		if n.Left == -1 {
			nodes[place] = Leaf(n.Key, n.Inf, n.Weight, n.Val)
		} else {
			nodes[place] = Inner(n.Key, n.Inf, n.Weight, nodes[n.Left], nodes[n.Right])
		}
	}
	return nodes, api.OK
}

// ahead is a node that Read has still to come to, and the place whose right child it is; -1: it is nobody's.
type ahead struct {
	n     *Node
	above int
}

// Read: the table of what can be reached. Two Loads at each inner node.
func Read(g cell.Gate, entry *Node) ([]api.Node, api.Errno) {
	if entry == nil {
		return nil, api.ErrNil
	}
	var t []api.Node
	met := map[*Node]struct{}{}
	for row := []ahead{{entry, -1}}; len(row) > 0; { // doesn't call itself, since a tree can be deep
		next := row[len(row)-1]
		row = row[:len(row)-1]
		if _, again := met[next.n]; again || next.n == nil {
			return nil, api.ErrForm
		}
		if len(t) == api.MaxNodes {
			return nil, api.ErrBig
		}
		met[next.n] = struct{}{}
		place := len(t)
		t = append(t, plain(next.n, place))
		if next.above >= 0 {
			t[next.above].Right = place
		}
		if !next.n.Data.Leaf {
			l, r := Left(g, next.n), Right(g, next.n)
			row = append(row, ahead{r, place}, ahead{l, -1})
		}
	}
	return t, api.OK
}

// plain: a node of a table numbered from the root on, in which a left child stands right behind its parent; where the right one stands is still open.
func plain(n *Node, place int) api.Node {
	d := n.Data
	t := api.Node{Key: d.Key, Inf: d.Inf, Weight: d.Weight, Val: d.Val, Left: -1, Right: -1}
	if !d.Leaf {
		t.Left = place + 1
	}
	return t
}

// Round: Read of what Make makes, and the kinds of the accesses.
func Round(t []api.Node) ([]api.Node, []int, api.Errno) {
	entry, e := Make(t)
	if e != api.OK {
		return nil, nil, e
	}
	tape := cell.NewTape()
	round, e := Read(tape, entry)
	if e != api.OK {
		return nil, nil, e
	}
	return round, tape.Kinds(), api.OK
}

// Walk: the keys' places on the path, numbered from the root on, and the kinds of the accesses.
func Walk(t []api.Node, key int) ([]int, []int, api.Errno) {
	nodes, e := made(t)
	if e != api.OK {
		return nil, nil, e
	}
	at := make(map[*Node]int, len(nodes))
	for place, n := range nodes {
		at[n] = place
	}
	tape := cell.NewTape()
	var places []int
	for _, n := range Path(tape, nodes[0], key) {
		places = append(places, at[n])
	}
	return places, tape.Kinds(), api.OK
}

// Seek: the answers of Get for keys, one after the other, and how many accesses each took.
func Seek(t []api.Node, keys []int) ([]api.Ret, []int, api.Errno) {
	if e := table.Check(t); e != api.OK {
		return nil, nil, e
	}
	if len(keys) > api.MaxOps {
		return nil, nil, api.ErrBig
	}
	entry, e := Make(t)
	if e != api.OK {
		return nil, nil, e
	}
	rets := make([]api.Ret, len(keys))
	many := make([]int, len(keys))
	for i, key := range keys {
		tape := cell.NewTape()
		rets[i].Val, rets[i].Ok = Get(tape, entry, key)
		many[i] = len(tape.Kinds())
	}
	return rets, many, api.OK
}
