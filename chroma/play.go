package chroma

import (
	"larch/api"
	"larch/baton"
	"larch/cell"
	"larch/edit"
	"larch/node"
)

// Played is what a run of operations did.
type Played struct {
	Steps   []api.Step
	Ended   []bool
	History []api.Event
	Table   []api.Node // what can be reached behind the last pick
}

// Check: the error of a table, scripts and picks.
func Check(t []api.Node, scripts [][]api.Op, picks []int) api.Errno {
	if e := refusal(t, scripts, picks); e != api.OK {
		return e
	}
	return edit.Size(t)
}

func refusal(t []api.Node, scripts [][]api.Op, picks []int) api.Errno {
	return edit.Refusal(t, scripts, picks, api.Delete)
}

// Play: a worker for each list of operations, on the tree of a table.
func Play(t []api.Node, scripts [][]api.Op, picks []int) (Played, api.Errno) {
	played, _, e := Finish(t, scripts, picks, 0)
	return played, e
}

// Finish: the same, and behind the picks all workers in turn, till all have ended.
func Finish(t []api.Node, scripts [][]api.Op, picks []int, most int) (Played, bool, api.Errno) {
	if e := finishError(t, scripts, picks, most); e != api.OK {
		return Played{}, false, e
	}
	entry, _ := node.Make(t)
	var history []api.Event // no lock: one worker goes on at a time
	told, all, _ := baton.Finish(len(scripts), picks, most, func(worker int, g cell.Gate) {
		for _, op := range scripts[worker] {
			g.Pass(api.Start)
			history = append(history, api.Event{Thread: worker, Op: op})
			ret, _ := Do(g, entry, op)
			history = append(history, api.Event{Thread: worker, Return: true, Op: op, Ret: ret})
		}
	})
	left, _ := node.Read(nil, entry)
	return Played{Steps: told.Steps, Ended: told.Ended, History: history, Table: left}, all, api.OK
}

func finishError(t []api.Node, scripts [][]api.Op, picks []int, most int) api.Errno {
	if e := refusal(t, scripts, picks); e != api.OK {
		return e
	}
	if most < 0 {
		return api.ErrArg
	}
	if most > api.MaxPicks-len(picks) {
		return api.ErrBig
	}
	return edit.Size(t)
}

// made: the entry of the table's tree; the errors of one thread's operations.
func made(t []api.Node, ops []api.Op) (*node.Node, api.Errno) {
	if e := Check(t, [][]api.Op{ops}, nil); e != api.OK {
		return nil, e
	}
	return node.Make(t)
}

// Alone: one thread's operations: the answers, and the table behind them.
func Alone(t []api.Node, ops []api.Op) ([]api.Ret, []api.Node, api.Errno) {
	entry, e := made(t, ops)
	if e != api.OK {
		return nil, nil, e
	}
	rets := edit.All(treeOf(entry), ops)
	left, e := node.Read(nil, entry)
	if e != api.OK {
		return nil, nil, e
	}
	return rets, left, api.OK
}

// Repair: the table behind Clean of one thread.
func Repair(t []api.Node, key int) ([]api.Node, api.Errno) {
	entry, e := made(t, nil)
	if e != api.OK {
		return nil, e
	}
	Clean(nil, entry, key)
	return node.Read(nil, entry)
}

// Kinds: the kinds of the accesses of one thread's operations, Start ahead of each.
func Kinds(t []api.Node, ops []api.Op) ([]int, api.Errno) {
	entry, e := made(t, ops)
	if e != api.OK {
		return nil, e
	}
	return edit.Tape(treeOf(entry), ops), api.OK
}
