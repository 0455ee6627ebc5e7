package stack_test

import (
	"math"
	"math/rand"
	"slices"
	"testing"

	"larch/api"
	"larch/stack"
)

// What the chapter says, access by access and without goroutines: the tests hold the package against it.

// piece of a machine's stack; below is the number of another one, or none.
type piece struct {
	val, below int
}

const none = -1

// machine is a game: all pieces that were ever made, by their numbers, which of them is the top, and what the picks did up to now.
type machine struct {
	pieces  []piece
	top     int
	workers []*worker
	steps   []api.Step
	notes   []stack.Note
}

// worker stands ahead of an access of its operation number at: ahead of Start, if stage is 0; of its Cas, if it is 2, and then it has loaded the piece.
type worker struct {
	script []stack.Op
	at     int
	stage  int
	loaded int
}

func newMachine(start []int, scripts [][]stack.Op) *machine {
	m := &machine{top: none}
	for _, v := range slices.Backward(start) {
		m.top = m.made(v, m.top)
	}
	for _, script := range scripts {
		m.workers = append(m.workers, &worker{script: script})
	}
	return m
}

func (m *machine) made(val, below int) int {
	m.pieces = append(m.pieces, piece{val: val, below: below})
	return len(m.pieces) - 1
}

func (w *worker) ended() bool { return w.at == len(w.script) }

func (m *machine) pick(p int) {
	if p < 0 || p >= len(m.workers) || m.workers[p].ended() {
		m.steps = append(m.steps, api.Step{Worker: p, Kind: -1})
		return
	}
	kind := m.access(p)
	m.steps = append(m.steps, api.Step{Worker: p, Kind: kind, Ended: m.workers[p].ended()})
}

// access does the access that the worker stands at: its kind.
func (m *machine) access(p int) int {
	w := m.workers[p]
	op := w.script[w.at]
	if w.stage == 0 {
		m.notes = append(m.notes, stack.Note{Worker: p, Op: op})
		w.stage = 1
		return api.Start
	}
	switch {
	case op.Kind == stack.Take:
		got := stack.Got{Ok: true, Vals: m.values()}
		m.top = none
		m.answer(p, got)
		return api.Swap
	case op.Kind == stack.All:
		m.answer(p, stack.Got{Ok: true, Vals: m.values()})
		return api.Load
	case op.Kind == stack.Top || op.Kind == stack.Pop && w.stage == 1 && m.top == none:
		m.answer(p, m.valueOf(m.top))
		return api.Load
	case w.stage == 1:
		w.loaded, w.stage = m.top, 2
		return api.Load
	case m.top != w.loaded:
		w.stage = 1
	case op.Kind == stack.Push:
		m.top = m.made(op.Val, w.loaded)
		m.answer(p, stack.Got{Ok: true})
	default:
		m.top = m.pieces[w.loaded].below
		m.answer(p, m.valueOf(w.loaded))
	}
	return api.Cas
}

// answer: the operation has returned, in the pick that is under way.
func (m *machine) answer(p int, got stack.Got) {
	w := m.workers[p]
	m.notes = append(m.notes, stack.Note{Worker: p, Return: true, Op: w.script[w.at], Got: got})
	w.at, w.stage = w.at+1, 0
}

func (m *machine) valueOf(number int) stack.Got {
	if number == none {
		return stack.Got{}
	}
	return stack.Got{Ok: true, Val: m.pieces[number].val}
}

// values: of what is on the stack, the top first.
func (m *machine) values() []int {
	var list []int
	for at := m.top; at != none; at = m.pieces[at].below {
		list = append(list, m.pieces[at].val)
	}
	return list
}

func (m *machine) played() stack.Played {
	p := stack.Played{Notes: m.notes, Left: m.values()}
	p.Steps = m.steps
	for _, w := range m.workers {
		p.Ended = append(p.Ended, w.ended())
		p.Panics = append(p.Panics, false)
	}
	return p
}

func sameGot(a, b stack.Got) bool {
	return a.Ok == b.Ok && a.Val == b.Val && slices.Equal(a.Vals, b.Vals)
}

func sameNote(a, b stack.Note) bool {
	return a.Worker == b.Worker && a.Return == b.Return && a.Op == b.Op && sameGot(a.Got, b.Got)
}

func samePlayed(a, b stack.Played) bool {
	return slices.Equal(a.Steps, b.Steps) && slices.Equal(a.Ended, b.Ended) && slices.Equal(a.Panics, b.Panics) &&
		slices.EqualFunc(a.Notes, b.Notes, sameNote) && slices.Equal(a.Left, b.Left)
}

func isNothing(p stack.Played) bool {
	return len(p.Steps)+len(p.Ended)+len(p.Panics)+len(p.Notes)+len(p.Left) == 0
}

// wantPlay: Play against the machine.
func wantPlay(t *testing.T, start []int, scripts [][]stack.Op, picks []int) stack.Played {
	t.Helper()
	m := newMachine(start, scripts)
	for _, p := range picks {
		m.pick(p)
	}
	got, e := stack.Play(start, scripts, picks)
	if e != api.OK || !samePlayed(got, m.played()) {
		t.Fatalf("Play(%v, %v, %v) = %v, %d, want %v", start, scripts, picks, got, e, m.played())
	}
	return got
}

// eachList calls look with every list of so many picks of workers below n.
func eachList(n, length int, look func(picks []int)) {
	picks := make([]int, length)
	var fill func(at int)
	fill = func(at int) {
		if at == length {
			look(picks)
			return
		}
		for p := range n {
			picks[at] = p
			fill(at + 1)
		}
	}
	fill(0)
}

// edges are the numbers at which something could turn; few, so that equal ones meet.
var edges = []int{math.MinInt, -1, 0, 0, 1, 2, math.MaxInt}

func someOp(r *rand.Rand) stack.Op {
	kinds := []int{stack.Push, stack.Push, stack.Push, stack.Pop, stack.Pop, stack.Top, stack.Take, stack.All}
	return stack.Op{Kind: kinds[r.Intn(len(kinds))], Val: edges[r.Intn(len(edges))]}
}

func someOps(r *rand.Rand, most int) []stack.Op {
	list := make([]stack.Op, r.Intn(most+1))
	for i := range list {
		list[i] = someOp(r)
	}
	return list
}

func someScripts(r *rand.Rand, workers, most int) [][]stack.Op {
	scripts := make([][]stack.Op, workers)
	for i := range scripts {
		scripts[i] = someOps(r, most)
	}
	return scripts
}

func someStart(r *rand.Rand, most int) []int {
	start := make([]int, r.Intn(most+1))
	for i := range start {
		start[i] = edges[r.Intn(len(edges))]
	}
	return start
}

// somePicks: also of workers that there aren't.
func somePicks(r *rand.Rand, workers, most int) []int {
	picks := make([]int, r.Intn(most+1))
	for i := range picks {
		picks[i] = r.Intn(workers+2) - 1
	}
	return picks
}

// ops: a script.
func ops(list ...stack.Op) []stack.Op { return list }

// scripts of workers.
func workers(list ...[]stack.Op) [][]stack.Op { return list }

func push(v int) stack.Op { return stack.Op{Kind: stack.Push, Val: v} }

var (
	pop  = stack.Op{Kind: stack.Pop}
	top  = stack.Op{Kind: stack.Top}
	take = stack.Op{Kind: stack.Take}
	all  = stack.Op{Kind: stack.All}
)
