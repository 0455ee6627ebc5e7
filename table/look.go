package table

import (
	"math"
	"slices"

	"larch/api"
)

// Leaves: the places of the leaves, from left to right.
func Leaves(t []api.Node) ([]int, api.Errno) {
	if e := Check(t); e != api.OK {
		return nil, e
	}
	return leaves(t), api.OK
}

func leaves(t []api.Node) []int {
	return slices.DeleteFunc(order(t, 0), func(place int) bool { return !isLeaf(t[place]) })
}

// Pairs: the keys and values of the leaves that have a key, from left to right.
func Pairs(t []api.Node) ([]api.Pair, api.Errno) {
	if e := Check(t); e != api.OK {
		return nil, e
	}
	var pairs []api.Pair
	for _, place := range leaves(t) {
		if n := t[place]; n.Inf == 0 {
			pairs = append(pairs, api.Pair{Key: n.Key, Val: n.Val})
		}
	}
	return pairs, api.OK
}

// Parents: each place's parent; -1 of the root.
func Parents(t []api.Node) ([]int, api.Errno) {
	if e := Check(t); e != api.OK {
		return nil, e
	}
	return parents(t), api.OK
}

func parents(t []api.Node) []int {
	up := make([]int, len(t))
	up[0] = -1
	for place, n := range t {
		if !isLeaf(n) {
			up[n.Left], up[n.Right] = place, place
		}
	}
	return up
}

// Height: the edges of the longest path from the root.
func Height(t []api.Node) (int, api.Errno) {
	if e := Check(t); e != api.OK {
		return 0, e
	}
	highest := 0
	up := parents(t)
	edges := make([]int, len(t)) // by place: from the root to it
	for _, place := range order(t, 0)[1:] {
		edges[place] = edges[up[place]] + 1 // a parent comes ahead of its children
		highest = max(highest, edges[place])
	}
	return highest, api.OK
}

// Search: the places that a search passes, from the root to a leaf.
func Search(t []api.Node, key int) ([]int, api.Errno) {
	if e := Check(t); e != api.OK {
		return nil, e
	}
	place := 0
	path := []int{place}
	for !isLeaf(t[place]) {
		if n := t[place]; n.Inf == 1 || key < n.Key {
			place = n.Left
		} else {
			place = n.Right
		}
		path = append(path, place)
	}
	return path, api.OK
}

// Ordered: is each leaf that has a key where a search for it ends?
func Ordered(t []api.Node) (bool, api.Errno) {
	if e := Check(t); e != api.OK {
		return false, e
	}
	passing := make([]span, len(t)) // by place: which keys' searches pass it; a search for each leaf would take too long in a deep tree
	passing[0] = span{math.MinInt, math.MaxInt}
	for _, place := range order(t, 0) {
		n, s := t[place], passing[place]
		if isLeaf(n) {
			if n.Inf == 0 && (n.Key < s.least || n.Key > s.most) {
				return false, api.OK
			}
			continue
		}
		passing[n.Left], passing[n.Right] = s.parted(n)
	}
	return true, api.OK
}

// span is the keys from least to most; none, where least is above most.
type span struct {
	least, most int
}

// parted: which of them go to the left at an inner node, and which to the right.
func (s span) parted(n api.Node) (left, right span) {
	none := span{math.MaxInt, math.MinInt} // stays without keys, however it is narrowed
	if n.Inf == 1 {
		return s, none
	}
	right = span{max(s.least, n.Key), s.most}
	if n.Key == math.MinInt {
		return none, right
	}
	return span{s.least, min(s.most, n.Key-1)}, right
}
