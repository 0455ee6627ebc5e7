// Package baton is layer 4: workers that stop at each gate, and picks that let them go on. See shared/doc/04-baton.md.
package baton

import (
	"sync"

	"larch/api"
	"larch/cell"
)

// Told is what a run did.
type Told struct {
	Steps  []api.Step // of each pick
	Ended  []bool     // by worker: has it ended by itself?
	Panics []bool     // by worker: did it end by a panic of its own?
}

// Run: n workers, each with its body; the picks.
func Run(n int, picks []int, body func(worker int, g cell.Gate)) (Told, api.Errno) {
	if body == nil {
		return Told{}, api.ErrNil
	}
	if e := refusal(!isCrew(n), tooManyPicks(picks)); e != api.OK {
		return Told{}, e
	}
	return play(n, picks, body), api.OK
}

// Finish: the same, and behind the picks all in turn, up to so many picks more; have all ended?
func Finish(n int, picks []int, most int, body func(worker int, g cell.Gate)) (Told, bool, api.Errno) {
	if body == nil {
		return Told{}, false, api.ErrNil
	}
	if e := refusal(!isCrew(n) || most < 0, tooManyPicks(picks) || most > api.MaxPicks); e != api.OK {
		return Told{}, false, e
	}
	told, all := playOn(n, picks, most, body)
	return told, all, api.OK
}

// play: Run, of arguments that are in order.
func play(n int, picks []int, body func(worker int, g cell.Gate)) Told {
	told, _ := playOn(n, picks, 0, body)
	return told
}

// playOn: Finish, of arguments that are in order.
func playOn(n int, picks []int, most int, body func(worker int, g cell.Gate)) (Told, bool) {
	r := begin(n, body)
	r.steps = make([]api.Step, 0, len(picks))
	for _, p := range picks {
		r.pick(p)
	}
	for more := 0; more < most && !r.allEnded(); more++ {
		r.pick(more % n)
	}
	r.end()
	return r.told(), r.allEnded()
}

// run is a crew of workers, of which one at a time has the baton, and what the picks did up to now.
type run struct {
	workers []*worker
	joined  sync.WaitGroup
	steps   []api.Step
}

// begin starts the workers one by one, each to its first gate, or its end.
func begin(n int, body func(worker int, g cell.Gate)) *run {
	r := &run{workers: make([]*worker, n)}
	for number := range r.workers {
		w := newWorker()
		r.workers[number] = w
		r.joined.Add(1)
		go func() {
			defer r.joined.Done()
			w.live(number, body)
		}()
		w.await()
	}
	return r
}

func (r *run) pick(p int) {
	step := api.Step{Worker: p, Kind: -1}
	if p >= 0 && p < len(r.workers) && r.workers[p].stands {
		w := r.workers[p]
		step.Kind = w.kind
		w.hand(true)
		step.Ended = w.ended
	}
	r.steps = append(r.steps, step)
}

// end ends the workers that still stand, and waits till no goroutine is left.
func (r *run) end() {
	for _, w := range r.workers {
		if w.stands {
			w.hand(false)
		}
	}
	r.joined.Wait()
}

func (r *run) allEnded() bool {
	for _, w := range r.workers {
		if !w.ended {
			return false
		}
	}
	return true
}

func (r *run) told() Told {
	t := Told{Steps: r.steps, Ended: make([]bool, len(r.workers)), Panics: make([]bool, len(r.workers))}
	for i, w := range r.workers {
		t.Ended[i], t.Panics[i] = w.ended, w.panics
	}
	return t
}
