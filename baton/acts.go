package baton

import (
	"larch/api"
	"larch/cell"
)

// Played is what a run of acts did.
type Played struct {
	Told
	Answers [][]int // by worker, of the acts that it has done
	Cells   []int   // what they hold then
}

// Body is what a worker of Drive does: so many accesses, and then it panics, or returns.
type Body struct {
	Accesses int
	Panic    bool
}

// ownPanic is what a body of this package throws; it isn't what ends a worker at its gate.
type ownPanic struct{}

// Play: a worker for each list of acts, on numbers that all share.
func Play(cells []int, scripts [][]cell.Act, picks []int) (Played, api.Errno) {
	if e := playError(cells, scripts, picks); e != api.OK {
		return Played{}, e
	}
	nums := make([]cell.Num, len(cells))
	for i, n := range cells {
		nums[i].Store(nil, n)
	}
	p := Played{Answers: make([][]int, len(scripts)), Cells: make([]int, len(cells))}
	p.Told = play(len(scripts), picks, func(worker int, g cell.Gate) {
		for _, a := range scripts[worker] {
			answer := act(&nums[a.At], g, a)
			p.Answers[worker] = append(p.Answers[worker], answer)
		}
	})
	for i := range nums {
		p.Cells[i] = nums[i].Load(nil)
	}
	return p, api.OK
}

// Drive: Finish with such bodies.
func Drive(bodies []Body, picks []int, most int) (Told, bool, api.Errno) {
	wrong, big := !isCrew(len(bodies)) || most < 0, tooManyPicks(picks) || most > api.MaxPicks
	for _, b := range bodies {
		wrong, big = wrong || b.Accesses < 0, big || b.Accesses > api.MaxOps
	}
	if e := refusal(wrong, big); e != api.OK {
		return Told{}, false, e
	}
	var shared cell.Num
	told, all := playOn(len(bodies), picks, most, func(worker int, g cell.Gate) {
		for range bodies[worker].Accesses {
			shared.Load(g)
		}
		if bodies[worker].Panic {
			panic(ownPanic{})
		}
	})
	return told, all, api.OK
}

// act does an act through the gate; it answers as cell.Nums does.
func act(c *cell.Num, g cell.Gate, a cell.Act) int {
	switch a.Kind {
	case api.Load:
		return c.Load(g)
	case api.Store:
		c.Store(g, a.A)
	case api.Add:
		return c.Add(g, a.A)
	case api.Swap:
		return c.Swap(g, a.A)
	case api.Cas:
		if c.Cas(g, a.A, a.B) {
			return 1
		}
	case api.And:
		return c.And(g, a.A)
	case api.Or:
		return c.Or(g, a.A)
	}
	return 0
}

// playError: cell.Nums itself is asked whether it would refuse an act.
func playError(cells []int, scripts [][]cell.Act, picks []int) api.Errno {
	big := tooManyPicks(picks) || tooLong(scripts) || len(cells) > api.MaxCells
	if e := refusal(!isCrew(len(scripts)), big); e != api.OK {
		return e
	}
	for _, script := range scripts {
		if _, _, _, e := cell.Nums(cells, script); e != api.OK {
			return e
		}
	}
	return api.OK
}
