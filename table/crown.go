package table

import "larch/api"

// Empty: the table of an empty map.
func Empty() []api.Node {
	return []api.Node{
		{Inf: 1, Weight: 1, Left: 1, Right: 2},
		{Inf: 1, Weight: 1, Left: -1, Right: -1},
		{Inf: 1, Weight: 1, Left: -1, Right: -1},
	}
}

// Root: the place of the root of the keys.
func Root(t []api.Node) (int, api.Errno) {
	if e := Check(t); e != api.OK {
		return 0, e
	}
	if !isArch(t, 0) {
		return 0, api.ErrForm
	}
	left := t[0].Left
	if isEnd(t[left]) {
		return 0, api.ErrNone
	}
	if !isArch(t, left) {
		return 0, api.ErrForm
	}
	root := t[left].Left
	for _, place := range order(t, root) {
		if t[place].Inf != 0 {
			return 0, api.ErrForm
		}
	}
	return root, api.OK
}

func isSentinel(n api.Node) bool { return n.Inf == 1 && n.Weight == 1 }

// isEnd: is it a sentinel leaf?
func isEnd(n api.Node) bool { return isSentinel(n) && isLeaf(n) }

// isArch: is it an inner sentinel with a sentinel leaf on its right?
func isArch(t []api.Node, place int) bool {
	n := t[place]
	return isSentinel(n) && !isLeaf(n) && isEnd(t[n.Right])
}
