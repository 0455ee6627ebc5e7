package edit

import (
	"slices"

	"larch/api"
	"larch/seq"
)

// What a table may have on which a game is played.
const (
	mostNodes  = 10000
	mostWeight = 1000
)

// Kinds: ErrKind, if the kind of one of the operations isn't from Get to last.
func Kinds(last int, scripts ...[]api.Op) api.Errno {
	for _, script := range scripts {
		if slices.ContainsFunc(script, func(o api.Op) bool { return o.Kind < api.Get || o.Kind > last }) {
			return api.ErrKind
		}
	}
	return api.OK
}

// Refusal: all that is asked of a game on a table ahead of the table's size; last as in Kinds.
func Refusal(t []api.Node, scripts [][]api.Op, picks []int, last int) api.Errno {
	if len(scripts) < 1 || len(scripts) > api.MaxThreads {
		return api.ErrArg
	}
	if len(picks) > api.MaxPicks || slices.ContainsFunc(scripts, isTooLong) {
		return api.ErrBig
	}
	if e := seq.Check(t); e != api.OK {
		return e
	}
	return Kinds(last, scripts...)
}

func isTooLong(script []api.Op) bool { return len(script) > api.MaxOps }

// Size: ErrBig, if the table is one that layers below take, and a game doesn't.
func Size(t []api.Node) api.Errno {
	if len(t) > mostNodes || slices.ContainsFunc(t, isTooHeavy) {
		return api.ErrBig
	}
	return api.OK
}

func isTooHeavy(n api.Node) bool { return n.Weight > mostWeight }
