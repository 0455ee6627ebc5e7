package scan

import (
	"slices"

	"larch/api"
	"larch/baton"
	"larch/cell"
	"larch/edit"
	"larch/node"
	"larch/table"
)

// On: the reading operations on a table, one after the other.
func On(t []api.Node, ops []api.Op) ([]api.Ret, api.Errno) {
	entry, e := made(t, ops)
	if e != api.OK {
		return nil, e
	}
	rets := make([]api.Ret, len(ops))
	for i, o := range ops {
		rets[i], _ = Do(nil, entry, o)
	}
	return rets, api.OK
}

// Tries: how many picks a reading operation took alone, on the tree of a table.
func Tries(t []api.Node, o api.Op) (int, api.Errno) {
	entry, e := made(t, []api.Op{o})
	if e != api.OK {
		return 0, e
	}
	tape := cell.NewTape()
	_, _ = Do(tape, entry, o)
	return len(tape.Kinds()), api.OK
}

// made: the entry of the table's tree, on which these operations are to read; the errors of On.
func made(t []api.Node, ops []api.Op) (*node.Node, api.Errno) {
	if _, e := table.Root(t); e != api.OK && e != api.ErrNone { // an empty map has a crown too
		return nil, e
	}
	if ordered, _ := table.Ordered(t); !ordered {
		return nil, api.ErrOrder
	}
	if len(ops) > api.MaxOps {
		return nil, api.ErrBig
	}
	if slices.ContainsFunc(ops, isNoRead) {
		return nil, api.ErrKind
	}
	return node.Make(t)
}

func isNoRead(o api.Op) bool {
	switch o.Kind {
	case api.Get, api.Successor, api.Predecessor, api.Min, api.Max, api.Range:
		return false
	}
	return true
}

// Played is what a run did.
type Played struct {
	baton.Told
	History []api.Event
	Table   []api.Node // of the tree then
}

// Play: a worker for each list of operations, on the tree of a table; the picks.
func Play(t []api.Node, scripts [][]api.Op, picks []int) (Played, api.Errno) {
	if e := edit.Refusal(t, scripts, picks, api.Range); e != api.OK {
		return Played{}, e
	}
	if e := edit.Size(t); e != api.OK {
		return Played{}, e
	}
	entry, _ := node.Make(t)
	told, history, _ := baton.Ops(scripts, picks, func(_ int, g cell.Gate, o api.Op) api.Ret {
		ret, _ := Do(g, entry, o)
		return ret
	})
	left, _ := node.Read(nil, entry)
	return Played{Told: told, History: history, Table: left}, api.OK
}
