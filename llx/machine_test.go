package llx_test

import (
	"math"
	"math/rand"
	"slices"
	"testing"

	"larch/api"
	"larch/llx"
	"larch/record"
)

// What the chapters say, access by access, on numbers alone and without goroutines: the tests hold the package against it.

// Where a thread stands: ahead of which access.
const (
	start = iota
	firstMark
	firstInfo
	firstState
	secondMark
	getField
	secondInfo
	secondState
	validate
	freeze
	frozenFor
	allFrozen
	abort
	setAllFrozen
	setMark
	swing
	commit
)

// plan is what an SCX-record wants; one of the world at first wants nothing.
type plan struct {
	v, infos            []int
	fin                 []bool
	at, field, old, new int
}

// link is what a thread knows of a record.
type link struct {
	info   int
	fields []int
}

// thread stands in its act number at.
type thread struct {
	script   []llx.Act
	at       int
	stage, i int
	links    map[int]link
	early    bool // of a Link: was the mark set when it was read first?
	state    int
	seen     link
	scx      int // which one it helps
	answers  []llx.Ans
}

// machine is a game: the world, the threads, what the picks did up to now, and the fields behind each.
type machine struct {
	w       record.World
	plans   []plan
	threads []*thread
	steps   []api.Step
	moments [][][]int
}

func cloneRows(rows [][]int) [][]int {
	var c [][]int
	for _, row := range rows {
		c = append(c, slices.Clone(row))
	}
	return c
}

func clone(w record.World) record.World {
	return record.World{Fields: cloneRows(w.Fields), Infos: slices.Clone(w.Infos), Marks: slices.Clone(w.Marks), States: slices.Clone(w.States), Frozen: slices.Clone(w.Frozen)}
}

func newMachine(w record.World, scripts [][]llx.Act) *machine {
	m := &machine{w: clone(w), plans: make([]plan, len(w.States)), moments: [][][]int{cloneRows(w.Fields)}}
	for _, script := range scripts {
		m.threads = append(m.threads, &thread{script: script, links: map[int]link{}})
	}
	return m
}

func (t *thread) ended() bool { return t.at == len(t.script) }

func (m *machine) pick(p int) {
	step := api.Step{Worker: p, Kind: -1}
	if p >= 0 && p < len(m.threads) && !m.threads[p].ended() {
		step.Kind = m.access(m.threads[p])
		step.Ended = m.threads[p].ended()
	}
	m.steps = append(m.steps, step)
	m.moments = append(m.moments, cloneRows(m.w.Fields))
}

// access does the access that the thread stands at: its kind.
func (m *machine) access(t *thread) int {
	a := t.script[t.at]
	switch {
	case t.stage == start:
		t.answers = append(t.answers, llx.Ans{From: len(m.steps), To: -1})
		m.begin(t, a)
		return api.Start
	case t.stage >= freeze:
		return m.help(t, m.plans[t.scx])
	case t.stage == validate:
		if m.w.Infos[a.V[t.i]] != t.links[a.V[t.i]].info {
			t.forget(a.V)
			m.answer(t, llx.Ans{})
		} else if t.i++; t.i == len(a.V) {
			m.answer(t, llx.Ans{Code: 1})
		}
		return api.Load
	}
	m.look(t, a.At)
	return api.Load
}

// begin: up to the act's first access.
func (m *machine) begin(t *thread, a llx.Act) {
	t.i, t.stage = 0, firstMark
	if a.Kind == llx.Link {
		return
	}
	for _, n := range a.V {
		if _, is := t.links[n]; !is {
			m.answer(t, llx.Ans{Code: -1})
			return
		}
	}
	t.stage = validate
	if a.Kind == llx.Check && len(a.V) == 0 {
		m.answer(t, llx.Ans{Code: 1})
	}
	if a.Kind == llx.Swap {
		p := plan{v: a.V, fin: a.Fin, at: a.Pos, field: a.Field, old: t.links[a.V[a.Pos]].fields[a.Field], new: a.New}
		for _, n := range a.V {
			p.infos = append(p.infos, t.links[n].info)
		}
		t.scx, t.stage = len(m.plans), freeze
		m.plans, m.w.States, m.w.Frozen = append(m.plans, p), append(m.w.States, record.InProgress), append(m.w.Frozen, false)
		t.forget(a.V)
	}
}

func (t *thread) forget(v []int) {
	for _, n := range v {
		delete(t.links, n)
	}
}

// stateOf: a record's own first info is Aborted for good.
func (m *machine) stateOf(scx int) int {
	if scx == -1 {
		return record.Aborted
	}
	return m.w.States[scx]
}

// look: the next access of an LLX of record n, up to where it helps.
func (m *machine) look(t *thread, n int) {
	switch t.stage {
	case firstMark:
		t.early, t.stage = m.w.Marks[n], firstInfo
	case firstInfo:
		t.seen, t.stage = link{info: m.w.Infos[n]}, firstState
	case firstState:
		t.state, t.stage = m.stateOf(t.seen.info), secondMark
	case secondMark:
		t.stage = secondState
		if t.state == record.Aborted || t.state == record.Committed && !m.w.Marks[n] {
			t.stage = getField
		}
		m.skipFields(t, n)
	case getField:
		t.seen.fields = append(t.seen.fields, m.w.Fields[n][t.i])
		t.i++
		m.skipFields(t, n)
	case secondInfo:
		t.stage = secondState
		if m.w.Infos[n] == t.seen.info {
			t.links[n] = t.seen
			m.answer(t, llx.Ans{Code: llx.Done, Fields: t.seen.fields})
		}
	case secondState:
		switch m.stateOf(t.seen.info) {
		case record.InProgress:
			t.scx, t.stage, t.i = t.seen.info, freeze, 0
		case record.Committed:
			m.ended(t, true)
		default:
			m.ended(t, false)
		}
	}
}

// skipFields: is it behind the last field?
func (m *machine) skipFields(t *thread, n int) {
	if t.stage == getField && t.i == len(m.w.Fields[n]) {
		t.stage = secondInfo
	}
}

// ended: the SCX of the act, or the one that its LLX found, is at its end.
func (m *machine) ended(t *thread, committed bool) {
	a, code := t.script[t.at], 0
	switch {
	case a.Kind == llx.Swap && committed:
		code = 1
	case a.Kind == llx.Link:
		t.forget([]int{a.At})
		if committed && t.early {
			code = llx.Final
		}
	}
	m.answer(t, llx.Ans{Code: code})
}

// help: the next access of a help.
func (m *machine) help(t *thread, p plan) int {
	switch t.stage {
	case freeze:
		t.stage = frozenFor
		if r := p.v[t.i]; m.w.Infos[r] == p.infos[t.i] {
			m.w.Infos[r] = t.scx
			t.nextRecord(p)
		}
		return api.Cas
	case frozenFor:
		t.stage = allFrozen
		if m.w.Infos[p.v[t.i]] == t.scx {
			t.nextRecord(p)
		}
		return api.Load
	case allFrozen:
		t.stage = abort
		if m.w.Frozen[t.scx] {
			m.ended(t, true)
		}
		return api.Load
	case abort:
		m.w.States[t.scx] = record.Aborted
		m.ended(t, false)
	case setAllFrozen:
		m.w.Frozen[t.scx] = true
		t.i = -1
		t.nextMark(p)
	case setMark:
		m.w.Marks[p.v[t.i]] = true
		t.nextMark(p)
	case swing:
		if f := &m.w.Fields[p.v[p.at]][p.field]; *f == p.old {
			*f = p.new
		}
		t.stage = commit
		return api.Cas
	case commit:
		m.w.States[t.scx] = record.Committed
		m.ended(t, true)
	}
	return api.Store
}

func (t *thread) nextRecord(p plan) {
	t.stage = freeze
	if t.i++; t.i == len(p.v) {
		t.stage = setAllFrozen
	}
}

func (t *thread) nextMark(p plan) {
	t.stage = setMark
	for t.i++; t.i < len(p.v); t.i++ {
		if p.fin[t.i] {
			return
		}
	}
	t.stage = swing
}

// answer: the act has ended, in the pick that is under way.
func (m *machine) answer(t *thread, a llx.Ans) {
	last := &t.answers[len(t.answers)-1]
	a.From, a.To = last.From, len(m.steps)
	*last = a
	t.at, t.stage = t.at+1, start
}

func (m *machine) played() llx.Played {
	p := llx.Played{World: m.w, Steps: m.steps}
	for _, t := range m.threads {
		p.Answers = append(p.Answers, t.answers)
	}
	return p
}

func sameRows(a, b [][]int) bool {
	return slices.EqualFunc(a, b, func(x, y []int) bool { return slices.Equal(x, y) })
}

func sameWorld(a, b record.World) bool {
	return sameRows(a.Fields, b.Fields) && slices.Equal(a.Infos, b.Infos) && slices.Equal(a.Marks, b.Marks) && slices.Equal(a.States, b.States) && slices.Equal(a.Frozen, b.Frozen)
}

func sameAns(a, b llx.Ans) bool {
	return a.Code == b.Code && a.From == b.From && a.To == b.To && slices.Equal(a.Fields, b.Fields)
}

func samePlayed(a, b llx.Played) bool {
	sameAnswers := slices.EqualFunc(a.Answers, b.Answers, func(x, y []llx.Ans) bool { return slices.EqualFunc(x, y, sameAns) })
	return sameAnswers && sameWorld(a.World, b.World) && slices.Equal(a.Steps, b.Steps)
}

// machineBehind: behind the picks.
func machineBehind(w record.World, scripts [][]llx.Act, picks []int) *machine {
	m := newMachine(w, scripts)
	for _, p := range picks {
		m.pick(p)
	}
	return m
}

func mustPlay(t *testing.T, w record.World, scripts [][]llx.Act, picks []int) llx.Played {
	t.Helper()
	p, e := llx.Play(w, scripts, picks)
	if e != api.OK {
		t.Fatalf("Play(%v, %v, %v): error %d", w, scripts, picks, e)
	}
	return p
}

// wantPlay: Play against the machine.
func wantPlay(t *testing.T, w record.World, scripts [][]llx.Act, picks []int) llx.Played {
	t.Helper()
	want, got := machineBehind(w, scripts, picks).played(), mustPlay(t, w, scripts, picks)
	if !samePlayed(got, want) {
		t.Fatalf("Play(%v, %v, %v) =\n%v, want\n%v", w, scripts, picks, got, want)
	}
	return got
}

// wantMoments: Moments against the machine.
func wantMoments(t *testing.T, w record.World, scripts [][]llx.Act, picks []int) [][][]int {
	t.Helper()
	want := machineBehind(w, scripts, picks).moments
	got, e := llx.Moments(w, scripts, picks)
	if e != api.OK || !slices.EqualFunc(got, want, sameRows) {
		t.Fatalf("Moments(%v, %v, %v) =\n%v, %d, want\n%v", w, scripts, picks, got, e, want)
	}
	return got
}

// eachList calls look with every list of so many picks of threads below n.
func eachList(n, length int, look func(picks []int)) {
	picks := make([]int, length)
	var fill func(at int)
	fill = func(at int) {
		if at == length {
			look(picks)
			return
		}
		for p := range n {
			picks[at] = p
			fill(at + 1)
		}
	}
	fill(0)
}

// game is a world that is fit, and scripts that fit it.
type game struct {
	w       record.World
	scripts [][]llx.Act
}

// someWorld: any world that is fit, of some records and some that are spare.
func someWorld(r *rand.Rand, records, spare, scxs int) record.World {
	var w record.World
	for n := range records + spare {
		fields := make([]int, r.Intn(4))
		if n == 0 && len(fields) == 0 {
			fields = []int{-1, -1}
		}
		for i := range fields {
			fields[i] = r.Intn(records+1) - 1
		}
		at, marked := -1, false
		if n < records && r.Intn(3) == 0 {
			at, marked = r.Intn(scxs+1)-1, r.Intn(3) == 0
		}
		w.Fields, w.Infos, w.Marks = append(w.Fields, fields), append(w.Infos, at), append(w.Marks, marked)
	}
	for range scxs {
		w.States, w.Frozen = append(w.States, 1+r.Intn(2)), append(w.Frozen, r.Intn(2) == 0)
	}
	return w
}

// someV: some records, all unlike; more often low ones, so that threads meet.
func someV(r *rand.Rand, records, most int) []int {
	low := 1 + r.Intn(records)
	return r.Perm(low)[:min(low, r.Intn(most+1))]
}

// someAct: any one that fits; spares are the records that no Swap has yet.
func someAct(r *rand.Rand, w record.World, spares *[]int) llx.Act {
	records := len(w.Fields)
	switch k := r.Intn(8); {
	case k < 2:
		return llx.Act{Kind: llx.Check, V: someV(r, records, 3), At: 99, Pos: -7, New: 99, Fin: []bool{true}}
	case k < 6 && len(*spares) > 0:
		if a, is := someSwap(r, w, (*spares)[0]); is {
			*spares = (*spares)[1:]
			return a
		}
	}
	return llx.Act{Kind: llx.Link, At: r.Intn(1 + r.Intn(records)), V: []int{99, 99}, Field: -1, New: -1}
}

// someSwap: is there one?
func someSwap(r *rand.Rand, w record.World, spare int) (llx.Act, bool) {
	a := llx.Act{Kind: llx.Swap, V: someV(r, len(w.Fields), 2), New: spare, At: -1}
	if len(a.V) == 0 {
		return a, false
	}
	a.Pos = r.Intn(len(a.V))
	fields := len(w.Fields[a.V[a.Pos]])
	if fields == 0 {
		return a, false
	}
	a.Field = r.Intn(fields)
	for range a.V {
		a.Fin = append(a.Fin, r.Intn(4) == 0)
	}
	return a, true
}

// linked: the script with Links ahead of nearly each Swap and Check, so that these do something.
func linked(r *rand.Rand, script []llx.Act) []llx.Act {
	var out []llx.Act
	for _, a := range script {
		if a.Kind != llx.Link && r.Intn(8) > 0 {
			for _, n := range a.V {
				out = append(out, llx.Act{Kind: llx.Link, At: n})
			}
		}
		out = append(out, a)
	}
	return out
}

func someGame(r *rand.Rand, threads, acts int) game {
	records, spare := 1+r.Intn(2), r.Intn(8)
	g := game{w: someWorld(r, records, spare, r.Intn(3)), scripts: make([][]llx.Act, threads)}
	var spares []int
	for i := range spare {
		spares = append(spares, records+i)
	}
	for i := range g.scripts {
		for range r.Intn(acts + 1) {
			g.scripts[i] = append(g.scripts[i], someAct(r, g.w, &spares))
		}
		g.scripts[i] = linked(r, g.scripts[i])
	}
	return g
}

// somePicks: of threads, sometimes one thread for a while, and sometimes nobody.
func somePicks(r *rand.Rand, threads, most int) []int {
	var picks []int
	for length := r.Intn(most + 1); len(picks) < length; {
		p := r.Intn(threads)
		if r.Intn(16) == 0 {
			p = []int{-1, threads, math.MinInt, math.MaxInt}[r.Intn(4)]
		}
		for range 1 + r.Intn(4)*r.Intn(4) {
			picks = append(picks, p)
		}
	}
	return picks
}

// example: the world of the chapter's examples.
func example() record.World {
	return record.World{Fields: [][]int{{1}, {}, {}}, Infos: []int{-1, -1, -1}, Marks: make([]bool, 3)}
}

// swapIt: the Swap of the chapter's examples.
func swapIt() llx.Act { return llx.Act{Kind: llx.Swap, V: []int{0}, Fin: []bool{false}, New: 2} }

func linkOf(n int) llx.Act     { return llx.Act{Kind: llx.Link, At: n} }
func checkOf(v ...int) llx.Act { return llx.Act{Kind: llx.Check, V: v} }
func swapOf(v []int, fin []bool, pos, field, n int) llx.Act {
	return llx.Act{Kind: llx.Swap, V: v, Fin: fin, Pos: pos, Field: field, New: n}
}

// acts: a script.
func acts(list ...llx.Act) []llx.Act { return list }

// threads: the scripts.
func threads(list ...[]llx.Act) [][]llx.Act { return list }

// times: so many picks of one thread.
func times(n, thread int) []int { return slices.Repeat([]int{thread}, n) }
