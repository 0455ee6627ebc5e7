package help_test

import (
	"math/rand"
	"slices"
	"testing"

	"larch/baton"
	"larch/help"
	"larch/record"
)

// game is one of the games that the laws are asked of.
type game struct {
	w       record.World
	plans   []help.Plan
	scripts [][]int
}

func freshGame(r *rand.Rand, records, scxs, workers int) game {
	w := freshWorld(r, records, scxs, 3)
	return game{w: w, plans: somePlans(r, w, 3, freshPlan), scripts: someScripts(r, workers, 3, scxs)}
}

func (g game) play(t *testing.T, picks []int) help.Played {
	t.Helper()
	return mustPlay(t, g.w, g.plans, g.scripts, picks)
}

// haveCommon: have the plans a record in common?
func haveCommon(a, b help.Plan) bool {
	return slices.ContainsFunc(a.V, func(n int) bool { return slices.Contains(b.V, n) })
}

// checkEnds: what has returned has ended, and all its helps answer alike.
func checkEnds(t *testing.T, g game, p help.Played) {
	t.Helper()
	for worker, answers := range p.Answers {
		for i, a := range answers {
			state := p.World.States[g.scripts[worker][i]]
			if a == 1 && state != record.Committed || a == 0 && state != record.Aborted {
				t.Fatalf("%v: worker %d was answered %d of one in state %d: %v", g, worker, a, state, p)
			}
		}
	}
}

// checkOne: of two that have a record in common at most one is Committed, and at most one has Frozen set.
func checkOne(t *testing.T, g game, w record.World) {
	t.Helper()
	for i, a := range g.plans {
		for j, b := range g.plans[:i] {
			if !haveCommon(a, b) {
				continue
			}
			if w.States[i] == record.Committed && w.States[j] == record.Committed || w.Frozen[i] && w.Frozen[j] {
				t.Fatalf("%v: both %d and %d: %v", g, j, i, w)
			}
		}
	}
}

// checkCommitted: its records are its own, and what it finalizes is marked.
func checkCommitted(t *testing.T, g game, w record.World) {
	t.Helper()
	for k, p := range g.plans {
		if w.States[k] != record.Committed {
			continue
		}
		for i, n := range p.V {
			if w.Infos[n] != k || p.Fin[i] && !w.Marks[n] {
				t.Fatalf("%v: %d is committed, but record %d isn't: %v", g, k, n, w)
			}
		}
	}
}

// checkCause: whatever has changed is what one wants that has Frozen set.
func checkCause(t *testing.T, g game, w record.World) {
	t.Helper()
	for n, marked := range w.Marks {
		is := func(k int, p help.Plan) bool {
			for i, at := range p.V {
				if at == n && p.Fin[i] {
					return true
				}
			}
			return false
		}
		if marked && !g.anyFrozen(w, is) {
			t.Fatalf("%v: record %d is marked: %v", g, n, w)
		}
		for field, held := range w.Fields[n] {
			wants := func(k int, p help.Plan) bool { return p.V[p.At] == n && p.Field == field && p.New == held }
			if held != g.w.Fields[n][field] && !g.anyFrozen(w, wants) {
				t.Fatalf("%v: field %d of record %d: %v", g, field, n, w)
			}
		}
	}
}

// anyFrozen: is there one with Frozen set of which that is true?
func (g game) anyFrozen(w record.World, is func(k int, p help.Plan) bool) bool {
	for k, p := range g.plans {
		if w.Frozen[k] && is(k, p) {
			return true
		}
	}
	return false
}

func checkFresh(t *testing.T, g game, p help.Played) {
	t.Helper()
	checkEnds(t, g, p)
	checkOne(t, g, p.World)
	checkCommitted(t, g, p.World)
	checkCause(t, g, p.World)
}

// TestFreshWorldsUnderAllPicks: two SCX-records that take the same two records, in both orders, and helpers of them.
func TestFreshWorldsUnderAllPicks(t *testing.T) { // P13.2
	other := help.Plan{V: []int{1, 0}, Infos: []int{-1, -1}, Fin: []bool{true, false}, At: 1, Field: 1, Old: -1, New: 2}
	g := game{w: example(2), plans: plans(planP(), other)}
	for _, g.scripts = range [][][]int{lists([]int{0}, []int{1}), lists([]int{0}, []int{0}), lists([]int{0, 1}, []int{1, 0})} {
		eachList(2, 14, func(picks []int) { checkFresh(t, g, g.play(t, picks)) })
	}
}

func TestFreshWorlds(t *testing.T) { // P13.2
	r := rand.New(rand.NewSource(3))
	both, ended := 0, [3]int{}
	for range 4000 {
		g := freshGame(r, 1+r.Intn(5), 1+r.Intn(4), 1+r.Intn(6))
		p := g.play(t, somePicks(r, len(g.scripts), 120))
		checkFresh(t, g, p)
		for _, state := range p.World.States {
			ended[state]++
		}
		if slices.Contains(p.World.States, record.Committed) && slices.Contains(p.World.States, record.Aborted) {
			both++
		}
	}
	if both < 500 || min(ended[0], ended[1], ended[2]) < 1000 {
		t.Errorf("too little was tried: %d with both ends, states %v", both, ended)
	}
}

// TestAllComeToTheirEnds: each of a game in which all are picked in turn has an end.
func TestAllComeToTheirEnds(t *testing.T) { // P13.2, P13.4
	r := rand.New(rand.NewSource(4))
	for range 500 {
		g := freshGame(r, 1+r.Intn(4), 1+r.Intn(4), 1+r.Intn(6))
		picks, _ := baton.Robin(len(g.scripts), 3*(4+3*3))
		p := g.play(t, append(somePicks(r, len(g.scripts), 20), picks...))
		checkFresh(t, g, p)
		if slices.Contains(p.Ended, false) {
			t.Fatalf("%v: %v", g, p)
		}
	}
}

// behind: what one help has to make of a fresh world.
func behind(w record.World, p help.Plan, k int) record.World {
	want := clone(w)
	for i, n := range p.V {
		want.Infos[n] = k
		want.Marks[n] = want.Marks[n] || p.Fin[i]
	}
	if f := &want.Fields[p.V[p.At]][p.Field]; *f == p.Old {
		*f = p.New
	}
	want.States[k], want.Frozen[k] = record.Committed, true
	return want
}

func TestAlone(t *testing.T) { // P13.3
	r := rand.New(rand.NewSource(5))
	swung := 0
	for range 3000 {
		g := freshGame(r, 1+r.Intn(5), 1+r.Intn(4), 1)
		k := r.Intn(len(g.plans))
		g.scripts = lists([]int{k})
		p := g.play(t, make([]int, 4+3*3))
		if want := behind(g.w, g.plans[k], k); !slices.Equal(p.Answers[0], []int{1}) || !sameWorld(p.World, want) {
			t.Fatalf("%v: %v, want %v", g, p, want)
		}
		if !sameRows(p.World.Fields, g.w.Fields) {
			swung++
		}
	}
	if swung < 500 {
		t.Errorf("just %d fields have changed", swung)
	}
}

// wantReturn: a worker that stands somewhere, alone from there on, returns in time.
func wantReturn(t *testing.T, g game, picks []int, worker int) {
	t.Helper()
	before := g.play(t, picks)
	done := len(before.Answers[worker])
	if done == len(g.scripts[worker]) {
		return
	}
	bound := 4 + 3*len(g.plans[g.scripts[worker][done]].V)
	alone := append(slices.Clone(picks), slices.Repeat([]int{worker}, bound)...)
	if after := g.play(t, alone); len(after.Answers[worker]) <= done {
		t.Fatalf("%v: behind %v worker %d doesn't return within %d picks", g, picks, worker, bound)
	}
}

// TestAloneFromAnywhere: fresh or not.
func TestAloneFromAnywhere(t *testing.T) { // P13.4
	r := rand.New(rand.NewSource(6))
	for i := range 2000 {
		g := freshGame(r, 1+r.Intn(4), 1+r.Intn(4), 1+r.Intn(5))
		if i%2 == 0 {
			g.w = someWorld(r, len(g.w.Fields), len(g.plans), 3)
			g.plans = somePlans(r, g.w, 3, somePlan)
		}
		picks := somePicks(r, len(g.scripts), 60)
		for worker := range g.scripts {
			wantReturn(t, g, picks, worker)
		}
	}
}

// TestTheBoundIsReached: all Freezes fail, and all is marked.
func TestTheBoundIsReached(t *testing.T) { // P13.4
	p := with(func(p *help.Plan) { p.Fin = []bool{true, true} })
	g := game{w: example(1), plans: plans(p), scripts: lists([]int{0}, []int{0})}
	picks := slices.Concat(make([]int, 20), slices.Repeat([]int{1}, 10))
	if got := g.play(t, picks[:29]); len(got.Answers[1]) != 0 {
		t.Errorf("it returns ahead of the bound: %v", got)
	}
	if got := g.play(t, picks); len(got.Answers[1]) != 1 {
		t.Errorf("it doesn't return: %v", got)
	}
}

// TestHelpingAgain: one that is Committed, wherever all workers stand.
func TestHelpingAgain(t *testing.T) { // P13.5
	r := rand.New(rand.NewSource(7))
	again := 0
	for range 3000 {
		g := freshGame(r, 1+r.Intn(4), 1+r.Intn(3), 1+r.Intn(4))
		k, last := r.Intn(len(g.plans)), len(g.scripts)
		g.scripts = append(g.scripts, []int{k})
		picks := somePicks(r, last, 60)
		before := g.play(t, picks)
		if before.World.States[k] != record.Committed {
			continue
		}
		again++
		for more := range 4 + 3*3 + 1 {
			after := g.play(t, append(slices.Clone(picks), slices.Repeat([]int{last}, more)...))
			if !sameWorld(after.World, before.World) || after.Ended[last] && !slices.Equal(after.Answers[last], []int{1}) {
				t.Fatalf("%v: %v, before %v", g, after, before)
			}
		}
	}
	if again < 500 {
		t.Errorf("just %d were helped again", again)
	}
}
