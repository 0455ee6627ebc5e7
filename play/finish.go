package play

import (
	"slices"

	"larch/api"
	"larch/index"
)

// Finish: behind the picks all threads in turn, until all have ended; how many picks more that took.
func Finish(g Game, most int) (index.Played, int, api.Errno) {
	if e := Check(g); e != api.OK {
		return index.Played{}, 0, e
	}
	if most < 0 {
		return index.Played{}, 0, api.ErrArg
	}
	if isTooLong(g, most) {
		return index.Played{}, 0, api.ErrBig
	}
	inTurn := func(i int) int { return i % len(g.Scripts) }
	haveEnded := func(p index.Played) bool { return !slices.Contains(p.Ended, false) }
	p, e := playOn(g, most, inTurn, haveEnded)
	if e != api.OK {
		return index.Played{}, 0, e
	}
	needed := max(lastEnd(p.Steps)-len(g.Picks), 0)
	p.Steps = slices.Clone(p.Steps[:len(g.Picks)+needed]) // the picks behind these did nothing
	return p, needed, api.OK
}

// Solo: behind the picks one thread alone, until an operation of its returns; how many picks more that took.
func Solo(g Game, thread, most int) (index.Played, int, api.Errno) {
	p, e := Run(g)
	if e != api.OK {
		return index.Played{}, 0, e
	}
	if thread < 0 || thread >= len(g.Scripts) || most < 0 {
		return index.Played{}, 0, api.ErrArg
	}
	if p.Ended[thread] {
		return index.Played{}, 0, api.ErrNone
	}
	if isTooLong(g, most) {
		return index.Played{}, 0, api.ErrBig
	}
	alone := func(int) int { return thread }
	hasEnded := func(p index.Played) bool { return p.Ended[thread] }
	short, e := playOn(cut(g, thread, returned(p.History, thread)+1), most, alone, hasEnded)
	if e != api.OK {
		return index.Played{}, 0, e
	}
	needed := lastEnd(short.Steps) - len(g.Picks)
	p, e = Run(lengthen(g, needed, alone))
	if e != api.OK {
		return index.Played{}, 0, e
	}
	return p, needed, api.OK
}

func isTooLong(g Game, most int) bool { return most > api.MaxPicks-len(g.Picks) }

// returned: how many operations of the thread have.
func returned(h []api.Event, thread int) int {
	n := 0
	for _, e := range h {
		if e.Return && e.Thread == thread {
			n++
		}
	}
	return n
}

// cut: the game in which the thread ends behind its n-th operation. Up to there nothing of it is otherwise.
func cut(g Game, thread, n int) Game {
	g.Scripts = slices.Clone(g.Scripts)
	g.Scripts[thread] = g.Scripts[thread][:n]
	return g
}

// lengthen: the game with so many picks behind its own, the i-th of which next tells.
func lengthen(g Game, more int, next func(i int) int) Game {
	picks := make([]int, 0, len(g.Picks)+more)
	picks = append(picks, g.Picks...)
	for i := range more {
		picks = append(picks, next(i))
	}
	g.Picks = picks
	return g
}

// lastEnd: how many picks there are up to the last one in which a thread ended, with it.
func lastEnd(steps []api.Step) int {
	for at, s := range slices.Backward(steps) {
		if s.Ended {
			return at + 1
		}
	}
	return 0
}

// How many picks playOn tries first, beside as many as the game has, and how many times as many then.
const (
	fewPicks = 4000
	growth   = 8
)

// playOn: the game with picks behind its own, as next tells them, as many as are enough for done; ErrStop: most aren't. There may be too many of them. Most is often far more than is needed: so it is played anew with ever more.
func playOn(g Game, most int, next func(i int) int, done func(p index.Played) bool) (index.Played, api.Errno) {
	for more := min(most, len(g.Picks)+fewPicks); ; more = min(most, growth*more) {
		p, e := Run(lengthen(g, more, next))
		if e != api.OK || done(p) {
			return p, e
		}
		if more == most {
			return index.Played{}, api.ErrStop
		}
	}
}
