package baton

import (
	"slices"

	"larch/api"
	"larch/cell"
)

// The kinds of Echo's operations: up to mostEchoes it is the number of accesses; then comes one that panics.
const (
	mostEchoes = 8
	broken     = 9
)

// Ops: a worker for each list of operations; do does one; the history.
func Ops(scripts [][]api.Op, picks []int, do func(worker int, g cell.Gate, op api.Op) api.Ret) (Told, []api.Event, api.Errno) {
	if do == nil {
		return Told{}, nil, api.ErrNil
	}
	if e := opsError(scripts, picks); e != api.OK {
		return Told{}, nil, e
	}
	told, history := playOps(scripts, picks, do)
	return told, history, api.OK
}

// Echo: Ops on one number to which each operation adds.
func Echo(scripts [][]api.Op, picks []int) (Told, []api.Event, api.Errno) {
	if e := opsError(scripts, picks); e != api.OK {
		return Told{}, nil, e
	}
	for _, script := range scripts {
		if slices.ContainsFunc(script, isNoEcho) {
			return Told{}, nil, api.ErrKind
		}
	}
	var shared cell.Num
	told, history := playOps(scripts, picks, func(_ int, g cell.Gate, op api.Op) api.Ret {
		return echo(&shared, g, op)
	})
	return told, history, api.OK
}

// playOps: Ops, of arguments that are in order.
func playOps(scripts [][]api.Op, picks []int, do func(worker int, g cell.Gate, op api.Op) api.Ret) (Told, []api.Event) {
	var history []api.Event // no lock: one worker goes on at a time
	told := play(len(scripts), picks, func(worker int, g cell.Gate) {
		for _, op := range scripts[worker] {
			g.Pass(api.Start)
			history = append(history, api.Event{Thread: worker, Op: op})
			ret := do(worker, g, op)
			ret.Pairs = slices.Clone(ret.Pairs) // do may go on writing to its list
			history = append(history, api.Event{Thread: worker, Return: true, Op: op, Ret: ret})
		}
	})
	return told, history
}

func echo(shared *cell.Num, g cell.Gate, op api.Op) api.Ret {
	if op.Kind == broken {
		shared.Add(g, op.Val)
		panic(ownPanic{})
	}
	ret := api.Ret{Ok: true}
	for range op.Kind {
		ret.Val = shared.Add(g, op.Val)
	}
	return ret
}

func isNoEcho(op api.Op) bool {
	return op.Kind < 1 || op.Kind > mostEchoes && op.Kind != broken
}

func opsError(scripts [][]api.Op, picks []int) api.Errno {
	return refusal(!isCrew(len(scripts)), tooManyPicks(picks) || tooLong(scripts))
}
