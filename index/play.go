package index

import (
	"iter"

	"larch/api"
	"larch/baton"
	"larch/cell"
	"larch/edit"
)

// Played is what a run of operations did.
type Played struct {
	Steps   []api.Step
	Ended   []bool
	History []api.Event
	Table   []api.Node // what can be reached behind the last pick
}

// Play: a worker for each list of operations.
func Play(start []api.Pair, scripts [][]api.Op, picks []int) (Played, api.Errno) {
	if e := edit.Kinds(api.Range, scripts...); e != api.OK {
		return Played{}, e
	}
	if len(start) > api.MaxOps {
		return Played{}, api.ErrBig
	}
	m := Of(start)
	told, history, e := baton.Ops(scripts, picks, func(_ int, g cell.Gate, op api.Op) api.Ret {
		ret, _ := m.Handle(g).Do(op) // a handle keeps nothing, so it may be a new one each time
		return ret
	})
	if e != api.OK {
		return Played{}, e
	}
	return Played{Steps: told.Steps, Ended: told.Ended, History: history, Table: m.Table()}, api.OK
}

// Alone: one thread's operations: the answers, and the table behind them.
func Alone(start []api.Pair, ops []api.Op) ([]api.Ret, []api.Node, api.Errno) {
	if e := edit.Kinds(api.Range, ops); e != api.OK {
		return nil, nil, e
	}
	if len(start) > api.MaxOps || len(ops) > api.MaxOps {
		return nil, nil, api.ErrBig
	}
	m := Of(start)
	h := m.Handle(nil)
	rets := make([]api.Ret, len(ops))
	for i, op := range ops {
		rets[i], _ = h.Do(op)
	}
	return rets, m.Table(), api.OK
}

// The ways of an iterator.
const (
	All  = 1
	Up   = 2
	Down = 3
)

func isWay(way int) bool { return way >= All && way <= Down }

// iterator: the one of that way.
func (h *Handle) iterator(way, from int) iter.Seq2[int, int] {
	switch way {
	case Up:
		return h.Up(from)
	case Down:
		return h.Down(from)
	}
	return h.All()
}

// Take: the first n pairs of an iterator that is left then.
func Take(start []api.Pair, way, from, n int) ([]api.Pair, api.Errno) {
	if e := takeError(start, way, n); e != api.OK || n == 0 {
		return nil, e
	}
	var pairs []api.Pair
	for key, val := range Of(start).Handle(nil).iterator(way, from) {
		pairs = append(pairs, api.Pair{Key: key, Val: val})
		if len(pairs) == n {
			break
		}
	}
	return pairs, api.OK
}

func takeError(start []api.Pair, way, n int) api.Errno {
	if !isWay(way) {
		return api.ErrKind
	}
	if n < 0 {
		return api.ErrArg
	}
	if len(start) > api.MaxOps || n > api.MaxOps {
		return api.ErrBig
	}
	return api.OK
}

// Weave: the pairs of an iterator, with an operation done behind each.
func Weave(start []api.Pair, way, from int, ops []api.Op) ([]api.Pair, []api.Ret, []api.Pair, api.Errno) {
	if e := weaveError(start, way, ops); e != api.OK {
		return nil, nil, nil, e
	}
	m := Of(start)
	mine, other := m.Handle(nil), m.Handle(nil)
	var pairs []api.Pair
	var rets []api.Ret
	for key, val := range mine.iterator(way, from) {
		pairs = append(pairs, api.Pair{Key: key, Val: val})
		if len(rets) == len(ops) {
			break
		}
		ret, _ := other.Do(ops[len(rets)])
		rets = append(rets, ret)
	}
	return pairs, rets, mine.whole(), api.OK
}

func weaveError(start []api.Pair, way int, ops []api.Op) api.Errno {
	if !isWay(way) {
		return api.ErrKind
	}
	if e := edit.Kinds(api.Range, ops); e != api.OK {
		return e
	}
	if len(start) > api.MaxOps || len(ops) > api.MaxOps {
		return api.ErrBig
	}
	return api.OK
}
