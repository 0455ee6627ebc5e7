package judge

import (
	"larch/api"
	"larch/model"
	"larch/table"
	"larch/weigh"
)

// Diff is a key whose pair isn't the same in two maps.
type Diff struct {
	Key      int
	Had, Has bool
	Was, Is  int // 0 where it wasn't there
}

// Violations: of the table.
func Violations(t []api.Node) (int, api.Errno) { return weigh.Violations(t) }

// Height: the edges of the table's longest path, and the bound for its keys.
func Height(t []api.Node) (int, int, api.Errno) {
	edges, e := weigh.Deep(t)
	if e != api.OK {
		return 0, 0, e
	}
	pairs, _ := table.Pairs(t)
	bound, _ := weigh.Bound(len(pairs))
	return edges, bound, api.OK
}

// Moved: the keys whose pairs aren't the same in two tables.
func Moved(a, b []api.Node) ([]Diff, api.Errno) {
	if e := checkBoth(a, b); e != api.OK {
		return nil, e
	}
	before, _ := table.Pairs(a)
	behind, _ := table.Pairs(b)
	keys, _ := model.Differ(before, behind)
	was, is := valuesOf(before), valuesOf(behind)
	diffs := make([]Diff, len(keys))
	for i, key := range keys {
		d := Diff{Key: key}
		d.Was, d.Had = was[key]
		d.Is, d.Has = is[key]
		diffs[i] = d
	}
	return diffs, api.OK
}

// checkBoth: both have to be in form; then, ordered.
func checkBoth(a, b []api.Node) api.Errno {
	if e := table.Check(a); e != api.OK {
		return e
	}
	if e := table.Check(b); e != api.OK {
		return e
	}
	first, _ := table.Ordered(a)
	second, _ := table.Ordered(b)
	if !first || !second {
		return api.ErrOrder
	}
	return api.OK
}

// Solo: within how many accesses an operation returns, if its thread alone goes on.
func Solo(threads, nodes, weight int) (int, api.Errno) {
	if threads < 1 || threads > api.MaxThreads || nodes < 0 || weight < 0 {
		return 0, api.ErrArg
	}
	if nodes > api.MaxNodes || weight > api.MaxWeight {
		return 0, api.ErrBig
	}
	m := nodes + weight + 4*threads + 20
	return (threads + 2) * m * (40*m + 280), api.OK
}
