package queue_test

import (
	"math"
	"math/rand"
	"slices"
	"testing"

	"larch/api"
	"larch/queue"
)

// What the chapter says, access by access and without goroutines: the tests hold the package against it.

const none = -1

// link of a machine's chain; next is the number of another one, or none.
type link struct {
	val, next int
}

// machine is a game: all links that were ever made, by their numbers, and what the picks did up to now.
type machine struct {
	links      []link
	head, tail int
	workers    []*worker
	steps      []api.Step
	history    []api.Event
}

// worker stands ahead of an access of its operation number at: ahead of Start, if stage is 0; else of that one in the chapter's list. h, t and n are what it loaded; own is the link that its Put has made.
type worker struct {
	script  []api.Op
	at      int
	stage   int
	h, t, n int
	own     int
}

func newMachine(vals []int, scripts [][]api.Op) *machine {
	m := &machine{}
	m.made(0)
	for _, v := range vals {
		m.links[m.tail].next = m.made(v)
		m.tail++
	}
	for _, script := range scripts {
		m.workers = append(m.workers, &worker{script: script})
	}
	return m
}

func (m *machine) made(val int) int {
	m.links = append(m.links, link{val: val, next: none})
	return len(m.links) - 1
}

func (w *worker) ended() bool { return w.at == len(w.script) }

func (m *machine) pick(p int) {
	if p < 0 || p >= len(m.workers) || m.workers[p].ended() {
		m.steps = append(m.steps, api.Step{Worker: p, Kind: -1})
		return
	}
	kind := m.access(p)
	m.steps = append(m.steps, api.Step{Worker: p, Kind: kind, Ended: m.workers[p].ended()})
}

// access does the access that the worker stands at: its kind.
func (m *machine) access(p int) int {
	w := m.workers[p]
	op := w.script[w.at]
	if w.stage == 0 {
		m.history = append(m.history, api.Event{Thread: p, Op: op})
		w.stage = 1
		if op.Kind == 1 {
			w.own = m.made(op.Val)
		}
		return api.Start
	}
	if op.Kind == 1 {
		return m.putAccess(p, w)
	}
	return m.takeAccess(p, w)
}

func (m *machine) putAccess(p int, w *worker) int {
	switch w.stage {
	case 1:
		w.t, w.stage = m.tail, 2
		return api.Load
	case 2:
		w.n, w.stage = m.links[w.t].next, 3
		return api.Load
	case 3:
		if w.n != none {
			m.help(w.t, w.n)
			w.stage = 1
		} else if m.links[w.t].next == none {
			m.links[w.t].next, w.stage = w.own, 4
		} else {
			w.stage = 1
		}
		return api.Cas
	}
	m.help(w.t, w.own)
	m.answer(p, api.Ret{Ok: true})
	return api.Cas
}

func (m *machine) takeAccess(p int, w *worker) int {
	switch w.stage {
	case 1:
		w.h, w.stage = m.head, 2
		return api.Load
	case 2:
		w.t, w.stage = m.tail, 3
		return api.Load
	case 3:
		w.n, w.stage = m.links[w.h].next, 4
		if w.h == w.t && w.n == none {
			m.answer(p, api.Ret{})
		}
		return api.Load
	}
	w.stage = 1
	if w.h == w.t {
		m.help(w.t, w.n)
	} else if m.head == w.h {
		m.head = w.n
		m.answer(p, api.Ret{Ok: true, Val: m.links[w.n].val})
	}
	return api.Cas
}

// help: the Cas of tail.
func (m *machine) help(from, to int) {
	if m.tail == from {
		m.tail = to
	}
}

// answer: the operation has returned, in the pick that is under way.
func (m *machine) answer(p int, ret api.Ret) {
	w := m.workers[p]
	m.history = append(m.history, api.Event{Thread: p, Return: true, Op: w.script[w.at], Ret: ret})
	w.at, w.stage = w.at+1, 0
}

// behind: the values of the links behind one.
func (m *machine) behind(number int) []int {
	var list []int
	for at := m.links[number].next; at != none; at = m.links[at].next {
		list = append(list, m.links[at].val)
	}
	return list
}

func (m *machine) played() queue.Played {
	p := queue.Played{Steps: m.steps, History: m.history, Items: m.behind(m.head), Lag: len(m.behind(m.tail))}
	for _, w := range m.workers {
		p.Ended = append(p.Ended, w.ended())
	}
	return p
}

func machineBehind(vals []int, scripts [][]api.Op, picks []int) *machine {
	m := newMachine(vals, scripts)
	for _, p := range picks {
		m.pick(p)
	}
	return m
}

func sameRet(a, b api.Ret) bool {
	return a.Ok == b.Ok && a.Key == b.Key && a.Val == b.Val && len(a.Pairs)+len(b.Pairs) == 0
}

func sameEvent(a, b api.Event) bool {
	return a.Thread == b.Thread && a.Return == b.Return && a.Op == b.Op && sameRet(a.Ret, b.Ret)
}

func samePlayed(a, b queue.Played) bool {
	return slices.Equal(a.Steps, b.Steps) && slices.Equal(a.Ended, b.Ended) && slices.EqualFunc(a.History, b.History, sameEvent) &&
		slices.Equal(a.Items, b.Items) && a.Lag == b.Lag
}

func isNothing(p queue.Played) bool {
	return len(p.Steps)+len(p.Ended)+len(p.History)+len(p.Items)+p.Lag == 0
}

// wantPlay: Play against the machine.
func wantPlay(t *testing.T, vals []int, scripts [][]api.Op, picks []int) queue.Played {
	t.Helper()
	want := machineBehind(vals, scripts, picks).played()
	got, e := queue.Play(vals, scripts, picks)
	if e != api.OK || !samePlayed(got, want) {
		t.Fatalf("Play(%v, %v, %v) = %v, %d, want %v", vals, scripts, picks, got, e, want)
	}
	return got
}

// eachList calls look with every list of so many picks of workers below n.
func eachList(n, length int, look func(picks []int)) {
	picks := make([]int, length)
	var fill func(at int)
	fill = func(at int) {
		if at == length {
			look(picks)
			return
		}
		for p := range n {
			picks[at] = p
			fill(at + 1)
		}
	}
	fill(0)
}

// edges are the numbers at which something could turn; few, so that equal ones meet.
var edges = []int{math.MinInt, -1, 0, 0, 1, 2, math.MaxInt}

// someOp: what its kind doesn't use may be anything.
func someOp(r *rand.Rand) api.Op {
	return api.Op{Kind: 1 + r.Intn(2), Val: edges[r.Intn(len(edges))], Key: edges[r.Intn(len(edges))], Hi: r.Intn(3)}
}

func someOps(r *rand.Rand, most int) []api.Op {
	list := make([]api.Op, r.Intn(most+1))
	for i := range list {
		list[i] = someOp(r)
	}
	return list
}

func someScripts(r *rand.Rand, workers, most int) [][]api.Op {
	scripts := make([][]api.Op, workers)
	for i := range scripts {
		scripts[i] = someOps(r, most)
	}
	return scripts
}

func someVals(r *rand.Rand, most int) []int {
	vals := make([]int, r.Intn(most+1))
	for i := range vals {
		vals[i] = edges[r.Intn(len(edges))]
	}
	return vals
}

// somePicks: also of workers that there aren't.
func somePicks(r *rand.Rand, workers, most int) []int {
	picks := make([]int, r.Intn(most+1))
	for i := range picks {
		picks[i] = r.Intn(workers+2) - 1
	}
	return picks
}

// ops: a script.
func ops(list ...api.Op) []api.Op { return list }

// scripts of workers.
func workers(list ...[]api.Op) [][]api.Op { return list }

func put(v int) api.Op { return api.Op{Kind: 1, Val: v} }

var take = api.Op{Kind: 2}
