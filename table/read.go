package table

import (
	"strconv"
	"strings"

	"larch/api"
)

// MaxText is the most bytes that Read takes.
const MaxText = 8000000

const infinity = "inf"

// Read: the tree of a text.
func Read(s string) ([]api.Node, api.Errno) {
	if len(s) > MaxText {
		return nil, api.ErrBig
	}
	r := reader{rest: s}
	if !r.tree() || r.rest != "" {
		return nil, api.ErrText
	}
	if len(r.nodes) > api.MaxNodes {
		return nil, api.ErrBig
	}
	return r.nodes, api.OK
}

// reader has read the nodes, which come in the order of their places, and stands ahead of the rest.
type reader struct {
	rest  string
	nodes []api.Node
	open  []int // the inner nodes whose ")" is still to come, the innermost one last
}

// take: if the rest begins so, it is behind that; does it?
func (r *reader) take(begin string) bool {
	rest, does := strings.CutPrefix(r.rest, begin)
	r.rest = rest
	return does
}

// number: is there one, written as it has to be?
func (r *reader) number() (int, bool) {
	end := 0
	for end < len(r.rest) && (r.rest[end] == '-' || r.rest[end] >= '0' && r.rest[end] <= '9') {
		end++
	}
	digits := r.rest[:end]
	r.rest = r.rest[end:]
	n, err := strconv.Atoi(digits)
	return n, err == nil && strconv.Itoa(n) == digits // there is just one way to write it
}

// tree: is there one?
func (r *reader) tree() bool {
	for more := true; more; {
		inner, ok := r.node()
		if !ok {
			return false
		}
		if inner {
			continue
		}
		if more, ok = r.close(); !ok {
			return false
		}
	}
	return true
}

// node: is there one, up to its left side if it is inner, else with its ")"?
func (r *reader) node() (inner, ok bool) {
	n := api.Node{Left: -1, Right: -1}
	if !r.take("(") || !r.key(&n) || !r.take(":") || !r.weight(&n) {
		return false, false
	}
	r.add(n)
	if r.take(" ") {
		r.open = append(r.open, len(r.nodes)-1)
		return true, true
	}
	return false, (n.Inf == 1 || r.value()) && r.take(")")
}

func (r *reader) key(n *api.Node) (ok bool) {
	if r.take(infinity) {
		n.Inf = 1
		return true
	}
	n.Key, ok = r.number()
	return ok
}

func (r *reader) weight(n *api.Node) (ok bool) {
	n.Weight, ok = r.number()
	return ok && n.Weight >= 0 && n.Weight <= api.MaxWeight
}

// value: of the leaf that was added last.
func (r *reader) value() (ok bool) {
	if !r.take("=") {
		return false
	}
	r.nodes[len(r.nodes)-1].Val, ok = r.number()
	return ok
}

// add hangs the node on the innermost one that is open.
func (r *reader) add(n api.Node) {
	place := len(r.nodes)
	r.nodes = append(r.nodes, n)
	if len(r.open) == 0 {
		return
	}
	if up := &r.nodes[r.open[len(r.open)-1]]; up.Left == -1 {
		up.Left = place
	} else {
		up.Right = place
	}
}

// close goes, behind a side's end, up to where a right side begins (more), or to the end of the tree.
func (r *reader) close() (more, ok bool) {
	for len(r.open) > 0 {
		last := len(r.open) - 1
		if r.nodes[r.open[last]].Right == -1 {
			return true, r.take(" ")
		}
		if !r.take(")") {
			return false, false
		}
		r.open = r.open[:last]
	}
	return false, true
}
