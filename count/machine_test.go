package count_test

import (
	"math"
	"math/rand"
	"slices"
	"testing"

	"larch/api"
	"larch/count"
)

// What the chapter says, access by access and without goroutines: the tests hold the package against it.

// machine is a game: the cells, the threads, and what the picks did up to now.
type machine struct {
	cells   []int
	threads []*thread
	steps   []api.Step
}

// thread stands ahead of an access of its operation number at: ahead of Start, if stage is 0; what it loaded is v.
type thread struct {
	script  []count.Op
	at      int
	stage   int
	v       int
	answers []count.Ans
}

func newMachine(cells []int, scripts [][]count.Op) *machine {
	m := &machine{cells: slices.Clone(cells)}
	for _, script := range scripts {
		m.threads = append(m.threads, &thread{script: script})
	}
	return m
}

func (t *thread) ended() bool { return t.at == len(t.script) }

func (m *machine) allEnded() bool {
	return !slices.ContainsFunc(m.threads, func(t *thread) bool { return !t.ended() })
}

func (m *machine) pick(p int) {
	if p < 0 || p >= len(m.threads) || m.threads[p].ended() {
		m.steps = append(m.steps, api.Step{Worker: p, Kind: -1})
		return
	}
	t := m.threads[p]
	kind := m.access(t)
	m.steps = append(m.steps, api.Step{Worker: p, Kind: kind, Ended: t.ended()})
}

// access does the access that the thread stands at: its kind.
func (m *machine) access(t *thread) int {
	op := t.script[t.at]
	if t.stage == 0 {
		t.answers = append(t.answers, count.Ans{From: len(m.steps), To: -1})
		t.stage, t.v = 1, 0
		if op.Kind == count.Sum && len(m.cells) == 0 {
			m.answer(t, 0, true)
		}
		return api.Start
	}
	switch op.Kind {
	case count.Plus:
		m.cells[op.At] += op.A
		m.answer(t, m.cells[op.At], true)
		return api.Add
	case count.Ticket:
		m.cells[op.At]++
		m.answer(t, m.cells[op.At], true)
		return api.Add
	case count.Sum:
		t.v += m.cells[t.stage-1]
		t.stage++
		if t.stage > len(m.cells) {
			m.answer(t, t.v, true)
		}
		return api.Load
	case count.Locked:
		return m.lockedAccess(t, op)
	}
	if t.stage == 1 {
		m.load(t, op)
		return api.Load
	}
	m.cas(t, op)
	return api.Cas
}

// load: of Inc, Top and Take.
func (m *machine) load(t *thread, op count.Op) {
	t.v, t.stage = m.cells[op.At], 2
	if op.Kind == count.Top && t.v >= op.A || op.Kind == count.Take && t.v <= 0 {
		m.answer(t, t.v, false)
	}
}

// cas: of Inc, Top and Take.
func (m *machine) cas(t *thread, op count.Op) {
	if m.cells[op.At] != t.v {
		t.stage = 1
		return
	}
	m.cells[op.At] = map[int]int{count.Inc: t.v + op.A, count.Top: op.A, count.Take: t.v - 1}[op.Kind]
	m.answer(t, m.cells[op.At], true)
}

func (m *machine) lockedAccess(t *thread, op count.Op) int {
	switch t.stage {
	case 1:
		if m.cells[op.At] == 0 {
			m.cells[op.At], t.stage = 1, 2
		}
		return api.Cas
	case 2:
		t.v, t.stage = m.cells[op.A], 3
		return api.Load
	case 3:
		m.cells[op.A], t.stage = t.v+1, 4
		return api.Store
	}
	m.cells[op.At] = 0
	m.answer(t, t.v+1, true)
	return api.Store
}

// answer: the operation has ended, in the pick that is under way.
func (m *machine) answer(t *thread, val int, ok bool) {
	last := &t.answers[len(t.answers)-1]
	last.Val, last.Ok, last.To = val, ok, len(m.steps)
	t.at, t.stage = t.at+1, 0
}

func (m *machine) done() count.Done {
	d := count.Done{Cells: m.cells, Steps: m.steps}
	for _, t := range m.threads {
		d.Answers = append(d.Answers, t.answers)
	}
	return d
}

// holder: the first thread that stands behind its successful Cas and ahead of its last Store, of a Locked with that At.
func (m *machine) holder(at int) int {
	for number, t := range m.threads {
		if !t.ended() && t.script[t.at].Kind == count.Locked && t.script[t.at].At == at && t.stage > 1 {
			return number
		}
	}
	return -1
}

// played: the machine behind the picks.
func played(cells []int, scripts [][]count.Op, picks []int) *machine {
	m := newMachine(cells, scripts)
	for _, p := range picks {
		m.pick(p)
	}
	return m
}

func sameDone(a, b count.Done) bool {
	sameAnswers := slices.EqualFunc(a.Answers, b.Answers, func(x, y []count.Ans) bool { return slices.Equal(x, y) })
	return sameAnswers && slices.Equal(a.Cells, b.Cells) && slices.Equal(a.Steps, b.Steps)
}

// wantRun: Run, and Held of all cells, against the machine.
func wantRun(t *testing.T, cells []int, scripts [][]count.Op, picks []int) count.Done {
	t.Helper()
	m := played(cells, scripts, picks)
	got, e := count.Run(cells, scripts, picks)
	if e != api.OK || !sameDone(got, m.done()) {
		t.Fatalf("Run(%v, %v, %v) = %v, %d, want %v", cells, scripts, picks, got, e, m.done())
	}
	return got
}

func wantHeld(t *testing.T, cells []int, scripts [][]count.Op, picks []int) {
	t.Helper()
	m := played(cells, scripts, picks)
	for at := range cells {
		if who, e := count.Held(cells, scripts, picks, at); who != m.holder(at) || e != api.OK {
			t.Fatalf("Held(%v, %v, %v, %d) = %d, %d, want %d", cells, scripts, picks, at, who, e, m.holder(at))
		}
	}
}

// eachList calls look with every list of so many picks of threads below n.
func eachList(n, length int, look func(picks []int)) {
	picks := make([]int, length)
	var fill func(at int)
	fill = func(at int) {
		if at == length {
			look(picks)
			return
		}
		for p := range n {
			picks[at] = p
			fill(at + 1)
		}
	}
	fill(0)
}

// edges are the numbers at which something could turn.
var edges = []int{math.MinInt, math.MinInt + 1, -2, -1, 0, 1, 2, 3, math.MaxInt - 1, math.MaxInt}

// someOp: any operation on so many cells, which are more than one.
func someOp(r *rand.Rand, cells int) count.Op {
	op := count.Op{Kind: 1 + r.Intn(7), At: r.Intn(cells), A: edges[r.Intn(len(edges))]}
	if op.Kind == count.Locked {
		op.A = (op.At + 1 + r.Intn(cells-1)) % cells
	}
	return op
}

func someScripts(r *rand.Rand, threads, ops, cells int) [][]count.Op {
	scripts := make([][]count.Op, threads)
	for i := range scripts {
		for range r.Intn(ops + 1) {
			scripts[i] = append(scripts[i], someOp(r, cells))
		}
	}
	return scripts
}

func somePicks(r *rand.Rand, threads, most int) []int {
	picks := make([]int, r.Intn(most+1))
	for i := range picks {
		picks[i] = r.Intn(threads+2) - 1
	}
	return picks
}

func someCells(r *rand.Rand, cells int) []int {
	list := make([]int, cells)
	for i := range list {
		list[i] = []int{0, 0, 0, 1, 2, -1, math.MaxInt, math.MinInt}[r.Intn(8)]
	}
	return list
}

// ops: a script.
func ops(list ...count.Op) []count.Op { return list }

// times: so many times the same operation.
func times(n int, op count.Op) []count.Op { return slices.Repeat([]count.Op{op}, n) }

// threads: the scripts.
func threads(list ...[]count.Op) [][]count.Op { return list }
