package bst

import (
	"larch/api"
	"larch/baton"
	"larch/cell"
	"larch/edit"
)

// Played is what a run of operations did.
type Played struct {
	Steps   []api.Step
	Ended   []bool
	History []api.Event
	Table   []api.Node // what can be reached behind the last pick
}

// Play: a worker for each list of operations.
func Play(start []api.Pair, scripts [][]api.Op, picks []int) (Played, api.Errno) {
	if e := edit.Kinds(api.Delete, scripts...); e != api.OK {
		return Played{}, e
	}
	if len(start) > api.MaxOps {
		return Played{}, api.ErrBig
	}
	t := Of(start)
	told, history, e := baton.Ops(scripts, picks, func(_ int, g cell.Gate, op api.Op) api.Ret {
		ret, _ := t.Do(g, op)
		return ret
	})
	if e != api.OK {
		return Played{}, e
	}
	return Played{Steps: told.Steps, Ended: told.Ended, History: history, Table: t.Table()}, api.OK
}

// Alone: one thread's operations: the answers, and the table behind them.
func Alone(start []api.Pair, ops []api.Op) ([]api.Ret, []api.Node, api.Errno) {
	if e := refusal(start, ops); e != api.OK {
		return nil, nil, e
	}
	t := Of(start)
	rets := edit.All(t, ops)
	return rets, t.Table(), api.OK
}

// Kinds: the kinds of the accesses of one thread's operations, Start ahead of each.
func Kinds(start []api.Pair, ops []api.Op) ([]int, api.Errno) {
	if e := refusal(start, ops); e != api.OK {
		return nil, e
	}
	return edit.Tape(Of(start), ops), api.OK
}

// refusal: of one thread's operations.
func refusal(start []api.Pair, ops []api.Op) api.Errno {
	if e := edit.Kinds(api.Delete, ops); e != api.OK {
		return e
	}
	if len(start) > api.MaxOps || len(ops) > api.MaxOps {
		return api.ErrBig
	}
	return api.OK
}
