package weigh

import (
	"larch/api"
	"larch/table"
)

// isFault: is a node a violation, below a parent of that weight? A crown's node never is, nor is it above a red one, since its weight is 1.
func isFault(above, weight int) bool { return isRed(above, weight) || isOver(weight) }

func isRed(above, weight int) bool { return above == 0 && weight == 0 }

func isOver(weight int) bool { return weight > 1 }

// Reds: the places of the nodes of weight 0 whose parent has weight 0.
func Reds(t []api.Node) ([]int, api.Errno) {
	keys, e := keysOf(t)
	if e != api.OK {
		return nil, e
	}
	return reds(keys), api.OK
}

func reds(keys []api.Node) []int {
	if len(keys) == 0 {
		return nil
	}
	var all []int
	above := make([]int, len(keys)) // by place: the parent's weight
	above[0] = 1                    // the crown's
	for place, n := range keys {
		if isRed(above[place], n.Weight) {
			all = append(all, n.Key)
		}
		if !isLeaf(n) {
			above[n.Left], above[n.Right] = n.Weight, n.Weight
		}
	}
	return all
}

// Overs: the places of the nodes of the keys whose weight is above 1.
func Overs(t []api.Node) ([]int, api.Errno) {
	keys, e := keysOf(t)
	if e != api.OK {
		return nil, e
	}
	var all []int
	for _, n := range keys {
		if isOver(n.Weight) {
			all = append(all, n.Key)
		}
	}
	return all, api.OK
}

// Violations: how many there are.
func Violations(t []api.Node) (int, api.Errno) {
	keys, e := keysOf(t)
	if e != api.OK {
		return 0, e
	}
	n := len(reds(keys))
	for _, key := range keys {
		n += max(key.Weight-1, 0)
	}
	return n, api.OK
}

// First: the place of the first violation on the key's path; -1: there is none.
func First(t []api.Node, key int) (int, api.Errno) {
	if e := check(t); e != api.OK {
		return 0, e
	}
	path, e := table.Search(t, key)
	above := 1
	for _, place := range path {
		weight := t[place].Weight
		if isFault(above, weight) {
			return place, e
		}
		above = weight
	}
	return -1, e
}
