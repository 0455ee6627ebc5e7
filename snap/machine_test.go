package snap_test

import (
	"math"
	"math/rand"
	"slices"
	"testing"

	"larch/api"
	"larch/snap"
)

// What the chapter says, access by access and without goroutines: the tests hold the package against it.

// reg is what a register holds: a number, and a stamp that no other number has that was ever put into a register.
type reg struct {
	number, stamp int
}

// machine is a game: the registers, the threads, what the picks did up to now, and what the registers held behind each.
type machine struct {
	regs    []reg
	stamps  int
	threads []*thread
	steps   []api.Step
	moments [][]int
}

// thread stands ahead of an access of its operation number at: ahead of Start, if stage is 0.
type thread struct {
	script      []snap.Op
	at, stage   int
	last, found []reg // of Snap: the collect ahead of the one under way, and this one; of Turn: what was loaded
	collects    int
	answers     []snap.Ans
}

func newMachine(regs []int, scripts [][]snap.Op) *machine {
	m := &machine{regs: make([]reg, len(regs))}
	for at, n := range regs {
		m.put(at, n)
	}
	for _, script := range scripts {
		m.threads = append(m.threads, &thread{script: script})
	}
	m.moments = [][]int{m.numbers()}
	return m
}

func (m *machine) put(at, number int) {
	m.stamps++
	m.regs[at] = reg{number, m.stamps}
}

func numbersOf(regs []reg) []int {
	list := make([]int, len(regs))
	for i, r := range regs {
		list[i] = r.number
	}
	return list
}

func (m *machine) numbers() []int { return numbersOf(m.regs) }

func (t *thread) ended() bool { return t.at == len(t.script) }

func (m *machine) pick(p int) {
	step := api.Step{Worker: p, Kind: -1}
	if p >= 0 && p < len(m.threads) && !m.threads[p].ended() {
		step.Kind = m.access(m.threads[p])
		step.Ended = m.threads[p].ended()
	}
	m.steps = append(m.steps, step)
	m.moments = append(m.moments, m.numbers())
}

// access does the access that the thread stands at: its kind.
func (m *machine) access(t *thread) int {
	op := t.script[t.at]
	if t.stage == 0 {
		t.answers = append(t.answers, snap.Ans{From: len(m.steps), To: -1})
		t.stage, t.last, t.found, t.collects = 1, nil, nil, 0
		if op.Kind == snap.Snap && len(m.regs) == 0 {
			m.answer(t, snap.Ans{Val: 2, Ok: true})
		}
		return api.Start
	}
	switch op.Kind {
	case snap.Write:
		m.put(op.At, op.A)
		m.answer(t, snap.Ans{Ok: true})
		return api.Store
	case snap.Read:
		m.answer(t, snap.Ans{Val: m.regs[op.At].number, Ok: true})
		return api.Load
	case snap.Trade:
		was := m.regs[op.At].number
		m.put(op.At, op.A)
		m.answer(t, snap.Ans{Val: was, Ok: true})
		return api.Swap
	case snap.Turn:
		return m.turn(t, op)
	}
	m.look(t)
	return api.Load
}

func (m *machine) turn(t *thread, op snap.Op) int {
	if t.stage == 1 {
		t.found, t.stage = []reg{m.regs[op.At]}, 2
		if t.found[0].number != op.A {
			m.answer(t, snap.Ans{Val: t.found[0].number})
		}
		return api.Load
	}
	did := m.regs[op.At].stamp == t.found[0].stamp
	if did {
		m.put(op.At, op.B)
	}
	m.answer(t, snap.Ans{Val: op.A, Ok: did})
	return api.Cas
}

// look: the next Load of a collect.
func (m *machine) look(t *thread) {
	t.found = append(t.found, m.regs[len(t.found)])
	if len(t.found) < len(m.regs) {
		return
	}
	t.collects++
	if slices.Equal(t.found, t.last) {
		m.answer(t, snap.Ans{Val: t.collects, Ok: true, All: numbersOf(t.found)})
		return
	}
	t.last, t.found = t.found, nil
}

// answer: the operation has ended, in the pick that is under way.
func (m *machine) answer(t *thread, a snap.Ans) {
	last := &t.answers[len(t.answers)-1]
	a.From, a.To = last.From, len(m.steps)
	*last = a
	t.at, t.stage = t.at+1, 0
}

func (m *machine) done() snap.Done {
	d := snap.Done{Regs: m.numbers(), Steps: m.steps}
	for _, t := range m.threads {
		d.Answers = append(d.Answers, t.answers)
	}
	return d
}

// played: the machine behind the picks.
func played(regs []int, scripts [][]snap.Op, picks []int) *machine {
	m := newMachine(regs, scripts)
	for _, p := range picks {
		m.pick(p)
	}
	return m
}

func sameAns(a, b snap.Ans) bool {
	return a.Val == b.Val && a.Ok == b.Ok && a.From == b.From && a.To == b.To && slices.Equal(a.All, b.All)
}

func sameDone(a, b snap.Done) bool {
	sameAnswers := slices.EqualFunc(a.Answers, b.Answers, func(x, y []snap.Ans) bool { return slices.EqualFunc(x, y, sameAns) })
	return sameAnswers && slices.Equal(a.Regs, b.Regs) && slices.Equal(a.Steps, b.Steps)
}

// wantRun: Run against the machine.
func wantRun(t *testing.T, regs []int, scripts [][]snap.Op, picks []int) snap.Done {
	t.Helper()
	want := played(regs, scripts, picks).done()
	got, e := snap.Run(regs, scripts, picks)
	if e != api.OK || !sameDone(got, want) {
		t.Fatalf("Run(%v, %v, %v) = %v, %d, want %v", regs, scripts, picks, got, e, want)
	}
	return got
}

// wantMoments: Moments against the machine.
func wantMoments(t *testing.T, regs []int, scripts [][]snap.Op, picks []int) [][]int {
	t.Helper()
	want := played(regs, scripts, picks).moments
	got, e := snap.Moments(regs, scripts, picks)
	if e != api.OK || !sameRows(got, want) {
		t.Fatalf("Moments(%v, %v, %v) = %v, %d, want %v", regs, scripts, picks, got, e, want)
	}
	return got
}

func sameRows(a, b [][]int) bool {
	return slices.EqualFunc(a, b, func(x, y []int) bool { return slices.Equal(x, y) })
}

// eachList calls look with every list of so many picks of threads below n.
func eachList(n, length int, look func(picks []int)) {
	picks := make([]int, length)
	var fill func(at int)
	fill = func(at int) {
		if at == length {
			look(picks)
			return
		}
		for p := range n {
			picks[at] = p
			fill(at + 1)
		}
	}
	fill(0)
}

// edges are the numbers at which something could turn.
var edges = []int{math.MinInt, -1, 0, 1, 2, math.MaxInt}

// someOp: any operation on so many registers, of numbers that are often equal.
func someOp(r *rand.Rand, regs int) snap.Op {
	op := snap.Op{Kind: 1 + r.Intn(5), A: r.Intn(3), B: r.Intn(3)}
	if r.Intn(6) == 0 {
		op.A, op.B = edges[r.Intn(len(edges))], edges[r.Intn(len(edges))]
	}
	if regs == 0 || op.Kind == snap.Snap {
		return snap.Op{Kind: snap.Snap, At: edges[r.Intn(len(edges))], A: op.A, B: op.B}
	}
	op.At = r.Intn(regs)
	return op
}

func someScripts(r *rand.Rand, threads, ops, regs int) [][]snap.Op {
	scripts := make([][]snap.Op, threads)
	for i := range scripts {
		for range r.Intn(ops + 1) {
			scripts[i] = append(scripts[i], someOp(r, regs))
		}
	}
	return scripts
}

// somePicks: of threads, and sometimes of nobody.
func somePicks(r *rand.Rand, threads, most int) []int {
	picks := make([]int, r.Intn(most+1))
	for i := range picks {
		picks[i] = r.Intn(threads)
		if r.Intn(12) == 0 {
			picks[i] = []int{-1, threads, math.MinInt, math.MaxInt}[r.Intn(4)]
		}
	}
	return picks
}

func someRegs(r *rand.Rand, regs int) []int {
	list := make([]int, regs)
	for i := range list {
		list[i] = r.Intn(3)
	}
	return list
}

// ops: a script.
func ops(list ...snap.Op) []snap.Op { return list }

// times: so many times the same operation.
func times(n int, op snap.Op) []snap.Op { return slices.Repeat([]snap.Op{op}, n) }

// threads: the scripts.
func threads(list ...[]snap.Op) [][]snap.Op { return list }

var look = snap.Op{Kind: snap.Snap}

func write(at, a int) snap.Op   { return snap.Op{Kind: snap.Write, At: at, A: a} }
func read(at int) snap.Op       { return snap.Op{Kind: snap.Read, At: at} }
func trade(at, a int) snap.Op   { return snap.Op{Kind: snap.Trade, At: at, A: a} }
func turn(at, a, b int) snap.Op { return snap.Op{Kind: snap.Turn, At: at, A: a, B: b} }
