package chain_test

import (
	"math"
	"math/rand"
	"slices"
	"testing"

	"larch/api"
	"larch/baton"
	"larch/chain"
	"larch/model"
)

// What the chapters say, access by access, on numbers alone and without goroutines: the tests hold the package against it.

const none = -1

// The states of an SCX-record.
const (
	inProgress = iota
	committed
	aborted
)

// Where a worker stands: ahead of which access.
const (
	start = iota
	walk
	firstMark
	firstInfo
	firstState
	secondMark
	getField
	secondInfo
	secondState
	validate
	freeze
	frozenFor
	allFrozen
	abort
	setAllFrozen
	setMark
	swing
	commit
)

// rec is a record, by number; the tail's next is none; info none is its own first one.
type rec struct {
	pair       api.Pair
	next, info int
	mark       bool
}

// scx wants field 0 of v[0] to go from old to new.
type scx struct {
	v, infos []int
	fin      []bool
	old, new int
	state    int
	frozen   bool
}

type link struct {
	r, info, next int
}

// worker stands in its operation number at.
type worker struct {
	script []api.Op
	at     int
	stage  int
	p, n   int    // of the walk
	links  []link // that fit
	seen   link   // of the link under way
	state  int
	scx, i int  // which one it helps, and where it is with it
	own    bool // is that its own one?
}

// machine is a game: record 0 is the head.
type machine struct {
	recs    []rec
	scxs    []scx
	workers []*worker
	steps   []api.Step
	history []api.Event
	fails   int // how often an operation began anew
	helps   int // of another one's SCX
}

func newMachine(pairs []api.Pair, scripts [][]api.Op) *machine {
	m := &machine{}
	m.made(api.Pair{}, 1)
	for _, p := range pairs {
		m.made(p, len(m.recs)+1)
	}
	m.made(api.Pair{}, none)
	for _, script := range scripts {
		m.workers = append(m.workers, &worker{script: script})
	}
	return m
}

func (m *machine) made(pair api.Pair, next int) int {
	m.recs = append(m.recs, rec{pair: pair, next: next, info: none})
	return len(m.recs) - 1
}

func (m *machine) isItem(n int) bool { return m.recs[n].next != none }

func (m *machine) has(n, key int) bool { return m.isItem(n) && m.recs[n].pair.Key == key }

func (w *worker) ended() bool { return w.at == len(w.script) }

func (m *machine) pick(p int) {
	step := api.Step{Worker: p, Kind: -1}
	if p >= 0 && p < len(m.workers) && !m.workers[p].ended() {
		step.Kind = m.access(p)
		step.Ended = m.workers[p].ended()
	}
	m.steps = append(m.steps, step)
}

// access does the access that the worker stands at: its kind.
func (m *machine) access(p int) int {
	w := m.workers[p]
	op := w.script[w.at]
	switch {
	case w.stage == start:
		m.history = append(m.history, api.Event{Thread: p, Op: op})
		if op.Kind == api.Range && op.Key > op.Hi {
			m.answer(p, api.Ret{Ok: true})
		} else {
			w.begin(op)
		}
		return api.Start
	case w.stage == walk:
		w.n = m.recs[w.p].next
		if m.isItem(w.n) && m.recs[w.n].pair.Key < op.Key {
			w.p = w.n
		} else {
			m.arrived(p, op)
		}
	case w.stage == validate:
		if l := w.links[w.i]; m.recs[l.r].info != l.info {
			m.again(w, op)
		} else if w.i++; w.i == len(w.links) {
			m.answer(p, api.Ret{Ok: true, Pairs: m.linkedFrom(w, op.Key)})
		}
	case w.stage >= freeze:
		return m.help(p, op)
	default:
		m.look(p, op)
	}
	return api.Load
}

// begin: up to the operation's first access.
func (w *worker) begin(op api.Op) {
	w.links = nil
	if op.Kind == api.Range {
		w.link(0)
		return
	}
	w.p, w.stage = 0, walk
}

func (m *machine) again(w *worker, op api.Op) {
	m.fails++
	w.begin(op)
}

func (w *worker) link(r int) {
	w.seen, w.stage = link{r: r, next: none}, firstMark
}

// arrived: the walk is at its end.
func (m *machine) arrived(p int, op api.Op) {
	w := m.workers[p]
	val, has := m.recs[w.n].pair.Val, m.has(w.n, op.Key)
	switch {
	case op.Kind == api.Get && has:
		m.answer(p, api.Ret{Ok: true, Val: val})
	case op.Kind == api.PutIfAbsent && has:
		m.answer(p, api.Ret{Val: val})
	case op.Kind == api.Get, op.Kind == api.Delete && !has:
		m.answer(p, api.Ret{})
	default:
		w.link(w.p)
	}
}

func (m *machine) stateOf(info int) int {
	if info == none {
		return aborted
	}
	return m.scxs[info].state
}

// look: the next access of a link, up to where it helps.
func (m *machine) look(p int, op api.Op) {
	w := m.workers[p]
	r := m.recs[w.seen.r]
	switch w.stage {
	case firstMark:
		w.stage = firstInfo
	case firstInfo:
		w.seen.info, w.stage = r.info, firstState
	case firstState:
		w.state, w.stage = m.stateOf(w.seen.info), secondMark
	case secondMark:
		w.stage = secondState
		if w.state == aborted || w.state == committed && !r.mark {
			w.stage = getField
			if r.next == none {
				w.stage = secondInfo
			}
		}
	case getField:
		w.seen.next, w.stage = r.next, secondInfo
	case secondInfo:
		w.stage = secondState
		if r.info == w.seen.info {
			m.linked(p, op)
		}
	case secondState:
		if m.stateOf(w.seen.info) == inProgress {
			m.helps++
			w.scx, w.i, w.own, w.stage = w.seen.info, 0, false, freeze
		} else {
			m.again(w, op)
		}
	}
}

// linked: a link answered Done.
func (m *machine) linked(p int, op api.Op) {
	w := m.workers[p]
	w.links = append(w.links, w.seen)
	next := w.seen.next
	if op.Kind == api.Range {
		if m.isItem(next) && m.recs[next].pair.Key <= op.Hi {
			w.link(next)
		} else {
			w.i, w.stage = 0, validate
		}
		return
	}
	wanted := 1
	if m.has(w.n, op.Key) {
		wanted = 2
	}
	if op.Kind == api.Delete {
		wanted = 3
	}
	switch {
	case len(w.links) == 1 && next != w.n:
		m.again(w, op)
	case len(w.links) < wanted:
		w.link(next)
	default:
		m.want(w, op)
	}
}

// want: the SCX is made.
func (m *machine) want(w *worker, op api.Op) {
	s := scx{old: w.n, fin: []bool{false, true, true}[:len(w.links)]}
	for _, l := range w.links {
		s.v, s.infos = append(s.v, l.r), append(s.infos, l.info)
	}
	pair, next := api.Pair{Key: op.Key, Val: op.Val}, w.n
	switch len(w.links) {
	case 2:
		next = w.links[1].next
	case 3:
		pair, next = m.recs[w.links[2].r].pair, w.links[2].next
	}
	s.new = m.made(pair, next)
	m.scxs = append(m.scxs, s)
	w.scx, w.i, w.own, w.stage = len(m.scxs)-1, 0, true, freeze
}

// help: the next access of a help.
func (m *machine) help(p int, op api.Op) int {
	w := m.workers[p]
	s := &m.scxs[w.scx]
	switch w.stage {
	case freeze:
		w.stage = frozenFor
		if r := &m.recs[s.v[w.i]]; r.info == s.infos[w.i] {
			r.info = w.scx
			w.nextRecord(s)
		}
		return api.Cas
	case frozenFor:
		w.stage = allFrozen
		if m.recs[s.v[w.i]].info == w.scx {
			w.nextRecord(s)
		}
		return api.Load
	case allFrozen:
		w.stage = abort
		if s.frozen {
			m.helped(p, op, true)
		}
		return api.Load
	case abort:
		s.state = aborted
		m.helped(p, op, false)
	case setAllFrozen:
		s.frozen, w.i = true, -1
		w.nextMark(s)
	case setMark:
		m.recs[s.v[w.i]].mark = true
		w.nextMark(s)
	case swing:
		if r := &m.recs[s.v[0]]; r.next == s.old {
			r.next = s.new
		}
		w.stage = commit
		return api.Cas
	case commit:
		s.state = committed
		m.helped(p, op, true)
	}
	return api.Store
}

func (w *worker) nextRecord(s *scx) {
	w.stage = freeze
	if w.i++; w.i == len(s.v) {
		w.stage = setAllFrozen
	}
}

func (w *worker) nextMark(s *scx) {
	w.stage = setMark
	for w.i++; w.i < len(s.v); w.i++ {
		if s.fin[w.i] {
			return
		}
	}
	w.stage = swing
}

// helped: a help is at its end; if it was another one's SCX, the link doesn't fit.
func (m *machine) helped(p int, op api.Op, did bool) {
	w := m.workers[p]
	switch {
	case !w.own || !did:
		m.again(w, op)
	case op.Kind == api.PutIfAbsent:
		m.answer(p, api.Ret{Ok: true})
	case len(w.links) == 1:
		m.answer(p, api.Ret{})
	default:
		m.answer(p, api.Ret{Ok: true, Val: m.recs[w.n].pair.Val})
	}
}

// linkedFrom: the pairs of the linked items from lo on.
func (m *machine) linkedFrom(w *worker, lo int) []api.Pair {
	var pairs []api.Pair
	for _, l := range w.links[1:] {
		if pair := m.recs[l.r].pair; pair.Key >= lo {
			pairs = append(pairs, pair)
		}
	}
	return pairs
}

// answer: the operation has returned, in the pick that is under way.
func (m *machine) answer(p int, ret api.Ret) {
	w := m.workers[p]
	m.history = append(m.history, api.Event{Thread: p, Return: true, Op: w.script[w.at], Ret: ret})
	w.at, w.stage = w.at+1, start
}

func (m *machine) left() []api.Pair {
	var pairs []api.Pair
	for n := m.recs[0].next; m.isItem(n); n = m.recs[n].next {
		pairs = append(pairs, m.recs[n].pair)
	}
	return pairs
}

func (m *machine) played() chain.Played {
	p := chain.Played{Told: baton.Told{Steps: m.steps, Panics: make([]bool, len(m.workers))}, History: m.history, Left: m.left()}
	for _, w := range m.workers {
		p.Ended = append(p.Ended, w.ended())
	}
	return p
}

func machineBehind(pairs []api.Pair, scripts [][]api.Op, picks []int) *machine {
	m := newMachine(pairs, scripts)
	for _, p := range picks {
		m.pick(p)
	}
	return m
}

func sameEvent(a, b api.Event) bool {
	return a.Thread == b.Thread && a.Return == b.Return && a.Op == b.Op && model.SameRet(a.Ret, b.Ret)
}

func samePlayed(a, b chain.Played) bool {
	return slices.Equal(a.Steps, b.Steps) && slices.Equal(a.Ended, b.Ended) && slices.Equal(a.Panics, b.Panics) &&
		slices.EqualFunc(a.History, b.History, sameEvent) && slices.Equal(a.Left, b.Left)
}

func isNothing(p chain.Played) bool {
	return len(p.Steps)+len(p.Ended)+len(p.Panics)+len(p.History)+len(p.Left) == 0
}

func mustPlay(t *testing.T, pairs []api.Pair, scripts [][]api.Op, picks []int) chain.Played {
	t.Helper()
	p, e := chain.Play(pairs, scripts, picks)
	if e != api.OK {
		t.Fatalf("Play(%v, %v, %v): error %d", pairs, scripts, picks, e)
	}
	return p
}

// wantPlay: Play against the machine.
func wantPlay(t *testing.T, pairs []api.Pair, scripts [][]api.Op, picks []int) (chain.Played, *machine) {
	t.Helper()
	m := machineBehind(pairs, scripts, picks)
	got := mustPlay(t, pairs, scripts, picks)
	if want := m.played(); !samePlayed(got, want) {
		t.Fatalf("Play(%v, %v, %v) =\n%v, want\n%v", pairs, scripts, picks, got, want)
	}
	return got, m
}

// eachList calls look with every list of so many picks of workers below n.
func eachList(n, length int, look func(picks []int)) {
	picks := make([]int, length)
	var fill func(at int)
	fill = func(at int) {
		if at == length {
			look(picks)
			return
		}
		for p := range n {
			picks[at] = p
			fill(at + 1)
		}
	}
	fill(0)
}

// kinds are those that a chain has.
var kinds = []int{api.Get, api.Put, api.PutIfAbsent, api.Delete, api.Range}

// edges are the keys at which something could turn; few, so that equal ones and neighbours meet.
var edges = []int{math.MinInt, -1, 0, 1, 1, 2, 2, 3, math.MaxInt}

func someKey(r *rand.Rand) int { return edges[r.Intn(len(edges))] }

// someOp: what its kind doesn't use may be anything.
func someOp(r *rand.Rand) api.Op {
	return api.Op{Kind: kinds[r.Intn(len(kinds))], Key: someKey(r), Val: r.Intn(100), Hi: someKey(r)}
}

func someOps(r *rand.Rand, most int) []api.Op {
	list := make([]api.Op, r.Intn(most+1))
	for i := range list {
		list[i] = someOp(r)
	}
	return list
}

func someScripts(r *rand.Rand, workers, most int) [][]api.Op {
	scripts := make([][]api.Op, workers)
	for i := range scripts {
		scripts[i] = someOps(r, most)
	}
	return scripts
}

func somePairs(r *rand.Rand, most int) []api.Pair {
	var pairs []api.Pair
	for range r.Intn(most + 1) {
		pairs = append(pairs, api.Pair{Key: someKey(r), Val: -1 - r.Intn(100)})
	}
	return model.Of(pairs)
}

// somePicks: of workers, often one worker for a while, and sometimes nobody.
func somePicks(r *rand.Rand, workers, most int) []int {
	var picks []int
	for length := r.Intn(most + 1); len(picks) < length; {
		p := r.Intn(workers)
		if r.Intn(16) == 0 {
			p = []int{-1, workers, math.MinInt, math.MaxInt}[r.Intn(4)]
		}
		for range 1 + r.Intn(6)*r.Intn(6) {
			picks = append(picks, p)
		}
	}
	return picks
}

// chainOf: pairs from a row of keys and values.
func chainOf(kv ...int) []api.Pair {
	var pairs []api.Pair
	for i := 0; i < len(kv); i += 2 {
		pairs = append(pairs, api.Pair{Key: kv[i], Val: kv[i+1]})
	}
	return pairs
}

func get(k int) api.Op         { return api.Op{Kind: api.Get, Key: k} }
func put(k, v int) api.Op      { return api.Op{Kind: api.Put, Key: k, Val: v} }
func ifAbsent(k, v int) api.Op { return api.Op{Kind: api.PutIfAbsent, Key: k, Val: v} }
func del(k int) api.Op         { return api.Op{Kind: api.Delete, Key: k} }
func between(lo, hi int) api.Op {
	return api.Op{Kind: api.Range, Key: lo, Hi: hi}
}

// ops: a script.
func ops(list ...api.Op) []api.Op { return list }

// workers: the scripts.
func workers(list ...[]api.Op) [][]api.Op { return list }

// times: so many picks of one worker.
func times(n, worker int) []int { return slices.Repeat([]int{worker}, n) }
