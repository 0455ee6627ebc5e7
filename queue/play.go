package queue

import (
	"slices"

	"larch/api"
	"larch/baton"
	"larch/cell"
)

// Played is what a run of operations did.
type Played struct {
	Steps   []api.Step
	Ended   []bool
	History []api.Event
	Items   []int // what the queue holds then
	Lag     int   // how many things its tail stands back
}

// Play: a worker for each list of operations.
func Play(vals []int, scripts [][]api.Op, picks []int) (Played, api.Errno) {
	if e := refusal(vals, scripts...); e != api.OK {
		return Played{}, e
	}
	q := New(vals)
	told, history, e := baton.Ops(scripts, picks, func(_ int, g cell.Gate, op api.Op) api.Ret {
		ret, _ := q.Do(g, op)
		return ret
	})
	if e != api.OK {
		return Played{}, e
	}
	return Played{Steps: told.Steps, Ended: told.Ended, History: history, Items: q.Items(), Lag: q.Lag()}, api.OK
}

// Alone: one thread's operations, without a gate: the answers, and what is left.
func Alone(vals []int, ops []api.Op) ([]api.Ret, []int, api.Errno) {
	if e := aloneError(vals, ops); e != api.OK {
		return nil, nil, e
	}
	q := New(vals)
	rets := make([]api.Ret, len(ops))
	for i, op := range ops {
		rets[i], _ = q.Do(nil, op)
	}
	return rets, q.Items(), api.OK
}

// Kinds: the kinds of the accesses of one thread's operations, Start ahead of each.
func Kinds(vals []int, ops []api.Op) ([]int, api.Errno) {
	if e := aloneError(vals, ops); e != api.OK {
		return nil, e
	}
	q := New(vals)
	tape := cell.NewTape()
	for _, op := range ops {
		tape.Pass(api.Start)
		q.Do(tape, op)
	}
	return tape.Kinds(), api.OK
}

// refusal: a kind that there isn't counts ahead of all else.
func refusal(vals []int, scripts ...[]api.Op) api.Errno {
	for _, script := range scripts {
		if slices.ContainsFunc(script, hasNoKind) {
			return api.ErrKind
		}
	}
	if len(vals) > api.MaxOps {
		return api.ErrBig
	}
	return api.OK
}

func hasNoKind(op api.Op) bool {
	return op.Kind != put && op.Kind != take
}

func aloneError(vals []int, ops []api.Op) api.Errno {
	if e := refusal(vals, ops); e != api.OK {
		return e
	}
	if isTooLong(ops) {
		return api.ErrBig
	}
	return api.OK
}

func isTooLong(ops []api.Op) bool {
	return len(ops) > api.MaxOps
}
