package table

import (
	"slices"

	"larch/api"
)

// Sub: the tree below a place.
func Sub(t []api.Node, place int) ([]api.Node, api.Errno) {
	if e := Check(t); e != api.OK {
		return nil, e
	}
	if place < 0 || place >= len(t) {
		return nil, api.ErrArg
	}
	return below(t, place), api.OK
}

// Graft: the tree with another one in the place of what stands there.
func Graft(t []api.Node, place int, with []api.Node) ([]api.Node, api.Errno) {
	if e := checkBoth(t, with); e != api.OK {
		return nil, e
	}
	if place < 0 || place >= len(t) {
		return nil, api.ErrArg
	}
	tree := grafted(t, place, with)
	if len(tree) > api.MaxNodes {
		return nil, api.ErrBig
	}
	return tree, api.OK
}

// grafted lays both tables one behind the other, and hangs the second one where the place hung.
func grafted(t []api.Node, place int, with []api.Node) []api.Node {
	both := slices.Concat(t, with)
	graft := len(t)
	for i := graft; i < len(both); i++ {
		if n := &both[i]; !isLeaf(*n) {
			n.Left += graft
			n.Right += graft
		}
	}
	if place == 0 {
		return below(both, graft)
	}
	up := &both[parents(t)[place]]
	if up.Left == place {
		up.Left = graft
	} else {
		up.Right = graft
	}
	return below(both, 0)
}

// Mirror: the tree with left and right exchanged everywhere.
func Mirror(t []api.Node) ([]api.Node, api.Errno) {
	if e := Check(t); e != api.OK {
		return nil, e
	}
	m := slices.Clone(t)
	for i, n := range t {
		m[i].Left, m[i].Right = n.Right, n.Left
	}
	return below(m, 0), api.OK
}
