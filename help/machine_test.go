package help_test

import (
	"math"
	"math/rand"
	"slices"
	"testing"

	"larch/api"
	"larch/help"
	"larch/record"
)

// What the chapter says, access by access, on numbers alone and without goroutines: the tests hold the package against it.

// Where a helper stands: ahead of which access.
const (
	start = iota
	freeze
	info
	allFrozen
	abort
	setAllFrozen
	mark
	swing
	commit
)

// helper is a worker, at the help of number at of its script, and there at record V[i].
type helper struct {
	script       []int
	at, stage, i int
	answers      []int
}

// machine is a game: the world, the workers, what the picks did up to now.
type machine struct {
	w       record.World
	plans   []help.Plan
	helpers []*helper
	steps   []api.Step
}

func clone(w record.World) record.World {
	c := record.World{Infos: slices.Clone(w.Infos), Marks: slices.Clone(w.Marks), States: slices.Clone(w.States), Frozen: slices.Clone(w.Frozen)}
	for _, fields := range w.Fields {
		c.Fields = append(c.Fields, slices.Clone(fields))
	}
	return c
}

func newMachine(w record.World, plans []help.Plan, scripts [][]int) *machine {
	m := &machine{w: clone(w), plans: plans}
	for _, script := range scripts {
		m.helpers = append(m.helpers, &helper{script: script})
	}
	return m
}

func (h *helper) ended() bool { return h.at == len(h.script) }

func (m *machine) pick(p int) {
	step := api.Step{Worker: p, Kind: -1}
	if p >= 0 && p < len(m.helpers) && !m.helpers[p].ended() {
		step.Kind = m.access(m.helpers[p])
		step.Ended = m.helpers[p].ended()
	}
	m.steps = append(m.steps, step)
}

// access does the access that the helper stands at: its kind.
func (m *machine) access(h *helper) int {
	k := h.script[h.at]
	p := m.plans[k]
	switch h.stage {
	case start:
		h.stage, h.i = freeze, 0
		return api.Start
	case freeze:
		h.stage = info
		if r := p.V[h.i]; m.w.Infos[r] == p.Infos[h.i] {
			m.w.Infos[r] = k
			h.nextRecord(p)
		}
		return api.Cas
	case info:
		h.stage = allFrozen
		if m.w.Infos[p.V[h.i]] == k {
			h.nextRecord(p)
		}
		return api.Load
	case allFrozen:
		h.stage = abort
		if m.w.Frozen[k] {
			h.answer(1)
		}
		return api.Load
	case abort:
		m.w.States[k] = record.Aborted
		h.answer(0)
	case setAllFrozen:
		m.w.Frozen[k] = true
		h.i = -1
		h.nextMark(p)
	case mark:
		m.w.Marks[p.V[h.i]] = true
		h.nextMark(p)
	case swing:
		if f := &m.w.Fields[p.V[p.At]][p.Field]; *f == p.Old {
			*f = p.New
		}
		h.stage = commit
		return api.Cas
	case commit:
		m.w.States[k] = record.Committed
		h.answer(1)
	}
	return api.Store
}

func (h *helper) nextRecord(p help.Plan) {
	h.stage = freeze
	if h.i++; h.i == len(p.V) {
		h.stage = setAllFrozen
	}
}

func (h *helper) nextMark(p help.Plan) {
	h.stage = mark
	for h.i++; h.i < len(p.V); h.i++ {
		if p.Fin[h.i] {
			return
		}
	}
	h.stage = swing
}

func (h *helper) answer(n int) {
	h.answers = append(h.answers, n)
	h.at, h.stage = h.at+1, start
}

func (m *machine) played() help.Played {
	p := help.Played{Steps: m.steps, World: m.w}
	for _, h := range m.helpers {
		p.Ended, p.Answers = append(p.Ended, h.ended()), append(p.Answers, h.answers)
	}
	return p
}

func sameRows(a, b [][]int) bool {
	return slices.EqualFunc(a, b, func(x, y []int) bool { return slices.Equal(x, y) })
}

func sameWorld(a, b record.World) bool {
	return sameRows(a.Fields, b.Fields) && slices.Equal(a.Infos, b.Infos) && slices.Equal(a.Marks, b.Marks) && slices.Equal(a.States, b.States) && slices.Equal(a.Frozen, b.Frozen)
}

func samePlayed(a, b help.Played) bool {
	return slices.Equal(a.Steps, b.Steps) && slices.Equal(a.Ended, b.Ended) && sameRows(a.Answers, b.Answers) && sameWorld(a.World, b.World)
}

// mustPlay: Play of what isn't refused.
func mustPlay(t *testing.T, w record.World, plans []help.Plan, scripts [][]int, picks []int) help.Played {
	t.Helper()
	p, e := help.Play(w, plans, scripts, picks)
	if e != api.OK {
		t.Fatalf("Play(%v, %v, %v, %v): error %d", w, plans, scripts, picks, e)
	}
	return p
}

// wantPlay: Play against the machine.
func wantPlay(t *testing.T, w record.World, plans []help.Plan, scripts [][]int, picks []int) help.Played {
	t.Helper()
	m := newMachine(w, plans, scripts)
	for _, p := range picks {
		m.pick(p)
	}
	want, got := m.played(), mustPlay(t, w, plans, scripts, picks)
	if !samePlayed(got, want) {
		t.Fatalf("Play(%v, %v, %v, %v) = %v, want %v", w, plans, scripts, picks, got, want)
	}
	return got
}

// wantKinds: Kinds against the machine.
func wantKinds(t *testing.T, w record.World, plans []help.Plan, scx int) []int {
	t.Helper()
	m := newMachine(w, plans, [][]int{{scx}})
	for !m.helpers[0].ended() {
		m.pick(0)
	}
	var want []int
	for _, s := range m.steps[1:] {
		want = append(want, s.Kind)
	}
	got, e := help.Kinds(w, plans, scx)
	if e != api.OK || !slices.Equal(got, want) {
		t.Fatalf("Kinds(%v, %v, %d) = %v, %d, want %v", w, plans, scx, got, e, want)
	}
	return got
}

// eachList calls look with every list of so many picks of workers below n.
func eachList(n, length int, look func(picks []int)) {
	picks := make([]int, length)
	var fill func(at int)
	fill = func(at int) {
		if at == length {
			look(picks)
			return
		}
		for p := range n {
			picks[at] = p
			fill(at + 1)
		}
	}
	fill(0)
}

// someWorld: any world in form, of which record 0 has a field.
func someWorld(r *rand.Rand, records, scxs, fields int) record.World {
	var w record.World
	for i := range records {
		mine := make([]int, r.Intn(fields+1))
		if i == 0 && len(mine) == 0 {
			mine = []int{0}
		}
		for j := range mine {
			mine[j] = r.Intn(records+1) - 1
		}
		w.Fields = append(w.Fields, mine)
		w.Infos = append(w.Infos, r.Intn(scxs+1)-1)
		w.Marks = append(w.Marks, r.Intn(4) == 0)
	}
	for range scxs {
		w.States = append(w.States, r.Intn(3))
		w.Frozen = append(w.Frozen, r.Intn(3) == 0)
	}
	return w
}

// freshWorld: one as P13.2 has it.
func freshWorld(r *rand.Rand, records, scxs, fields int) record.World {
	w := someWorld(r, records, scxs, fields)
	for i := range w.Infos {
		w.Infos[i], w.Marks[i] = -1, false
	}
	w.States, w.Frozen = make([]int, scxs), make([]bool, scxs)
	return w
}

// somePlan: any one that is in form for the world; often one that finds what it wants.
func somePlan(r *rand.Rand, w record.World, most int) help.Plan {
	records, scxs := len(w.Fields), len(w.States)
	var p help.Plan
	for range 1 + r.Intn(most) {
		n := r.Intn(records)
		at := w.Infos[n]
		if r.Intn(4) == 0 {
			at = r.Intn(scxs+1) - 1
		}
		p.V, p.Infos, p.Fin = append(p.V, n), append(p.Infos, at), append(p.Fin, r.Intn(2) == 0)
	}
	p.At = r.Intn(len(p.V))
	if len(w.Fields[p.V[p.At]]) == 0 {
		p.V[p.At], p.Infos[p.At] = 0, w.Infos[0]
	}
	fields := w.Fields[p.V[p.At]]
	p.Field = r.Intn(len(fields))
	p.Old, p.New = fields[p.Field], r.Intn(records+1)-1
	if r.Intn(4) == 0 {
		p.Old = r.Intn(records+1) - 1
	}
	return p
}

// freshPlan: one as P13.2 has it.
func freshPlan(r *rand.Rand, w record.World, most int) help.Plan {
	p := somePlan(r, w, most)
	for i := range p.Infos {
		p.Infos[i] = -1
	}
	return p
}

func somePlans(r *rand.Rand, w record.World, most int, plan func(*rand.Rand, record.World, int) help.Plan) []help.Plan {
	var plans []help.Plan
	for range w.States {
		plans = append(plans, plan(r, w, most))
	}
	return plans
}

func someScripts(r *rand.Rand, workers, helps, scxs int) [][]int {
	scripts := make([][]int, workers)
	for i := range scripts {
		for range r.Intn(helps + 1) {
			scripts[i] = append(scripts[i], r.Intn(scxs))
		}
	}
	return scripts
}

// somePicks: of workers, and sometimes of nobody.
func somePicks(r *rand.Rand, workers, most int) []int {
	picks := make([]int, r.Intn(most+1))
	for i := range picks {
		picks[i] = r.Intn(workers)
		if r.Intn(12) == 0 {
			picks[i] = []int{-1, workers, math.MinInt, math.MaxInt}[r.Intn(4)]
		}
	}
	return picks
}

// example: the world of the chapter's examples, with so many SCX-records.
func example(scxs int) record.World {
	return record.World{Fields: [][]int{{1, -1}, {}, {}}, Infos: []int{-1, -1, -1}, Marks: make([]bool, 3), States: make([]int, scxs), Frozen: make([]bool, scxs)}
}

// planP, planQ: the plans of the chapter's examples.
func planP() help.Plan {
	return help.Plan{V: []int{0, 1}, Infos: []int{-1, -1}, Fin: []bool{false, true}, At: 0, Field: 0, Old: 1, New: 2}
}

func planQ() help.Plan {
	return help.Plan{V: []int{0}, Infos: []int{-1}, Fin: []bool{false}, At: 0, Field: 1, Old: -1, New: 2}
}

func plans(list ...help.Plan) []help.Plan { return list }

// lists: the scripts.
func lists(list ...[]int) [][]int { return list }
