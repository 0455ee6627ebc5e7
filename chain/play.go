package chain

import (
	"slices"

	"larch/api"
	"larch/baton"
	"larch/cell"
	"larch/model"
)

// Played is what a run did.
type Played struct {
	baton.Told
	History []api.Event
	Left    []api.Pair
}

// Play: a worker for each list of operations, on one chain of these pairs; the picks.
func Play(pairs []api.Pair, scripts [][]api.Op, picks []int) (Played, api.Errno) {
	if len(scripts) < 1 || len(scripts) > api.MaxThreads {
		return Played{}, api.ErrArg
	}
	if len(picks) > api.MaxPicks {
		return Played{}, api.ErrBig
	}
	if e := refusal(pairs, scripts...); e != api.OK {
		return Played{}, e
	}
	c, _ := New(pairs)
	told, history, e := baton.Ops(scripts, picks, func(_ int, g cell.Gate, o api.Op) api.Ret {
		ret, _ := c.Do(g, o)
		return ret
	})
	if e != api.OK {
		return Played{}, e
	}
	return Played{Told: told, History: history, Left: c.Pairs()}, api.OK
}

// Alone: the operations one after the other: the answers, what is left, the kinds of the accesses.
func Alone(pairs []api.Pair, ops []api.Op) ([]api.Ret, []api.Pair, []int, api.Errno) {
	if e := refusal(pairs, ops); e != api.OK {
		return nil, nil, nil, e
	}
	c, _ := New(pairs)
	tape := cell.NewTape()
	rets := make([]api.Ret, len(ops))
	for i, o := range ops {
		rets[i], _ = c.Do(tape, o)
	}
	return rets, c.Pairs(), tape.Kinds(), api.OK
}

// refusal: what is too long, then pairs that are no map, then a kind that a chain hasn't.
func refusal(pairs []api.Pair, scripts ...[]api.Op) api.Errno {
	if len(pairs) > api.MaxOps || slices.ContainsFunc(scripts, isTooLong) {
		return api.ErrBig
	}
	if e := model.Check(pairs); e != api.OK {
		return e
	}
	for _, script := range scripts {
		if slices.ContainsFunc(script, hasNoKind) {
			return api.ErrKind
		}
	}
	return api.OK
}

func isTooLong(script []api.Op) bool { return len(script) > api.MaxOps }

func hasNoKind(o api.Op) bool {
	switch o.Kind {
	case api.Get, api.Put, api.PutIfAbsent, api.Delete, api.Range:
		return false
	}
	return true
}
