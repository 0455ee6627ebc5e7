package llx_test

import (
	"math/rand"
	"slices"
	"testing"

	"larch/api"
	"larch/llx"
	"larch/record"
)

// tale is a game as it was played, with the fields behind each pick.
type tale struct {
	game
	picks   []int
	p       llx.Played
	moments [][][]int
}

func tell(t *testing.T, g game, picks []int) tale {
	t.Helper()
	m, e := llx.Moments(g.w, g.scripts, picks)
	if e != api.OK {
		t.Fatalf("Moments(%v, %v): error %d", g, picks, e)
	}
	return tale{game: g, picks: picks, p: mustPlay(t, g.w, g.scripts, picks), moments: m}
}

// each calls look with each act that has begun.
func (a tale) each(look func(thread, at int, act llx.Act, ans llx.Ans)) {
	for thread, answers := range a.p.Answers {
		for i, ans := range answers {
			look(thread, i, a.scripts[thread][i], ans)
		}
	}
}

// momentOf: a moment of the Link's span at which the record had these fields; -1 if there is none.
func (a tale) momentOf(n int, ans llx.Ans) int {
	for m := ans.From + 1; m <= ans.To+1; m++ {
		if slices.Equal(a.moments[m][n], ans.Fields) {
			return m
		}
	}
	return -1
}

// checkLinks: what a Link found stood there at one moment.
func checkLinks(t *testing.T, a tale) {
	t.Helper()
	a.each(func(thread, _ int, act llx.Act, ans llx.Ans) {
		if act.Kind == llx.Link && ans.Code == llx.Done && a.momentOf(act.At, ans) == -1 {
			t.Fatalf("%v: thread %d's Link of %d found %v", a, thread, act.At, ans.Fields)
		}
	})
}

// puts: the picks in which the field came to hold n, wherever it was.
func (a tale) puts(n int) (list []int) {
	for pick := range a.picks {
		for r, fields := range a.moments[pick+1] {
			for f, held := range fields {
				if held == n && a.moments[pick][r][f] != n {
					list = append(list, pick)
				}
			}
		}
	}
	return list
}

// linkAhead: the thread's last Link of the record ahead of its act number at.
func (a tale) linkAhead(thread, at, n int) llx.Ans {
	for i := at - 1; i >= 0; i-- {
		if act := a.scripts[thread][i]; act.Kind == llx.Link && act.At == n {
			return a.p.Answers[thread][i]
		}
	}
	return llx.Ans{}
}

// checkSwap: one that answered 1.
func checkSwap(t *testing.T, a tale, thread, at int) {
	t.Helper()
	act, ans := a.scripts[thread][at], a.p.Answers[thread][at]
	puts := a.puts(act.New)
	if len(puts) != 1 || puts[0] < ans.From || puts[0] > ans.To || a.moments[puts[0]+1][act.V[act.Pos]][act.Field] != act.New {
		t.Fatalf("%v: thread %d's Swap %d has put its New in picks %v", a, thread, at, puts)
	}
	for i, n := range act.V {
		link := a.linkAhead(thread, at, n)
		m := a.momentOf(n, link)
		for ; m <= puts[0]; m++ {
			if m == -1 || !slices.Equal(a.moments[m][n], link.Fields) {
				t.Fatalf("%v: record %d has changed ahead of thread %d's Swap %d", a, n, thread, at)
			}
		}
		if act.Fin[i] {
			checkFinal(t, a, n, puts[0], ans.To)
		}
	}
}

// checkFinal: a record that a Swap has finalized, which put its New in that pick, and ended in that.
func checkFinal(t *testing.T, a tale, n, put, end int) {
	t.Helper()
	if !a.p.World.Marks[n] {
		t.Fatalf("%v: record %d isn't marked", a, n)
	}
	for m := put + 1; m < len(a.moments); m++ {
		if !slices.Equal(a.moments[m][n], a.moments[put+1][n]) {
			t.Fatalf("%v: record %d has changed behind its end", a, n)
		}
	}
	a.each(func(thread, _ int, act llx.Act, ans llx.Ans) {
		if act.Kind == llx.Link && act.At == n && ans.From > end && ans.To != -1 && ans.Code != llx.Final {
			t.Fatalf("%v: thread %d's Link of %d answers %d", a, thread, n, ans.Code)
		}
		if act.Kind == llx.Swap && ans.Code == 1 && slices.Contains(act.V, n) && a.puts(act.New)[0] > put {
			t.Fatalf("%v: thread %d's Swap of %d answers 1", a, thread, n)
		}
	})
}

// checkSwaps: all of them; which records may be marked.
func checkSwaps(t *testing.T, a tale) {
	t.Helper()
	marks := slices.Clone(a.w.Marks)
	a.each(func(thread, at int, act llx.Act, ans llx.Ans) {
		if act.Kind != llx.Swap {
			return
		}
		if ans.Code == 1 {
			checkSwap(t, a, thread, at)
		} else if ans.To != -1 && len(a.puts(act.New)) > 0 {
			t.Fatalf("%v: thread %d's Swap %d answers %d, and has put its New", a, thread, at, ans.Code)
		}
		if ans.Code == 1 || ans.To == -1 {
			for i, n := range act.V {
				marks[n] = marks[n] || act.Fin[i]
			}
		}
	})
	for n, marked := range a.p.World.Marks {
		if marked && !marks[n] {
			t.Fatalf("%v: record %d is marked, and no Swap has done it", a, n)
		}
	}
}

// checkFields: each is as it was at first, or holds the New of the last Swap that put something there; no New stands twice.
func checkFields(t *testing.T, a tale) {
	t.Helper()
	want, when := cloneRows(a.w.Fields), map[[2]int]int{}
	a.each(func(_, _ int, act llx.Act, ans llx.Ans) {
		if act.Kind != llx.Swap {
			return
		}
		puts, at := a.puts(act.New), [2]int{0, act.Field}
		if len(puts) > 1 {
			t.Fatalf("%v: %d was put in picks %v", a, act.New, puts)
		}
		if len(puts) == 1 {
			at[0] = act.V[act.Pos]
			if puts[0]+1 > when[at] {
				want[at[0]][at[1]], when[at] = act.New, puts[0]+1
			}
		}
	})
	if !sameRows(a.p.World.Fields, want) {
		t.Fatalf("%v: fields %v, want %v", a, a.p.World.Fields, want)
	}
}

func checkLaws(t *testing.T, a tale) {
	t.Helper()
	checkLinks(t, a)
	checkSwaps(t, a)
	checkFields(t, a)
}

// TestLaws: whatever is played.
func TestLaws(t *testing.T) { // P14.3, P14.4, P14.5
	r := rand.New(rand.NewSource(4))
	swaps, fins, lost := 0, 0, 0
	for range 5000 {
		g := someGame(r, 2+r.Intn(3), 5)
		a := tell(t, g, somePicks(r, len(g.scripts), 300))
		checkLaws(t, a)
		a.each(func(_, _ int, act llx.Act, ans llx.Ans) {
			if act.Kind == llx.Swap && ans.Code == 1 {
				swaps++
				if slices.Contains(act.Fin, true) {
					fins++
				}
			}
			if act.Kind == llx.Swap && ans.Code == 0 && ans.To != -1 {
				lost++
			}
		})
	}
	if swaps < 2000 || fins < 500 || lost < 100 {
		t.Errorf("too little was tried: %d Swaps, %d that finalize, %d that have failed", swaps, fins, lost)
	}
}

// TestLawsUnderAllPicks: two that are linked to the same two records, and swap.
func TestLawsUnderAllPicks(t *testing.T) { // P14.3, P14.4, P14.5
	w := record.World{Fields: [][]int{{-1}, {0}, {}, {}}, Infos: slices.Repeat([]int{-1}, 4), Marks: make([]bool, 4)}
	g := game{w: w, scripts: threads(
		acts(linkOf(0), linkOf(1), swapOf([]int{0, 1}, []bool{false, true}, 0, 0, 2)),
		acts(linkOf(1), linkOf(0), swapOf([]int{1, 0}, []bool{true, false}, 0, 0, 3), linkOf(1)),
	)}
	lead := slices.Concat(times(14, 0), times(14, 1))
	eachList(2, 11, func(picks []int) { checkLaws(t, tell(t, g, slices.Concat(lead, picks, times(12, 1), times(12, 0)))) })
}

// room: how many picks an act may take alone, from its Start on.
func room(g game, a llx.Act) int {
	switch a.Kind {
	case llx.Check:
		return 1 + len(a.V)
	case llx.Swap:
		return 4 + 3*len(a.V)
	}
	most := 0 // records in the V of an SCX that may be found under way
	for _, script := range g.scripts {
		for _, b := range script {
			most = max(most, len(b.V)*oneIf(b.Kind == llx.Swap))
		}
	}
	return 1 + 4 + len(g.w.Fields[a.At]) + 1 + 1 + 3 + 3*most
}

func oneIf(b bool) int {
	if b {
		return 1
	}
	return 0
}

// alone: from picks on the thread alone, for so many picks.
func alone(picks []int, thread, n int) []int { return slices.Concat(picks, times(n, thread)) }

// TestAloneItEnds: the act that is under way, wherever all threads stand.
func TestAloneItEnds(t *testing.T) { // P14.6
	r := rand.New(rand.NewSource(5))
	under := [4]int{}
	for range 3000 {
		g := someGame(r, 1+r.Intn(4), 5)
		picks := somePicks(r, len(g.scripts), 100)
		p := mustPlay(t, g.w, g.scripts, picks)
		for thread, answers := range p.Answers {
			last := len(answers) - 1
			if last < 0 || answers[last].To != -1 {
				continue
			}
			act := g.scripts[thread][last]
			under[act.Kind]++
			if q := mustPlay(t, g.w, g.scripts, alone(picks, thread, room(g, act)-1)); q.Answers[thread][last].To == -1 {
				t.Fatalf("%v behind %v: thread %d doesn't end its %v", g, picks, thread, act)
			}
		}
	}
	if under[llx.Link] < 500 || under[llx.Check] < 30 || under[llx.Swap] < 200 {
		t.Errorf("too little was tried: %v", under)
	}
}

// othersSwap: is a Swap of another thread pending?
func othersSwap(g game, p llx.Played, thread int) bool {
	for other, answers := range p.Answers {
		last := len(answers) - 1
		if other != thread && last >= 0 && answers[last].To == -1 && g.scripts[other][last].Kind == llx.Swap {
			return true
		}
	}
	return false
}

// TestAloneItSwaps: on links of its own time.
func TestAloneItSwaps(t *testing.T) { // P14.6
	r := rand.New(rand.NewSource(6))
	swaps, others := 0, 0
	for range 6000 {
		g := someGame(r, 1+r.Intn(4), 5)
		picks, thread := somePicks(r, len(g.scripts), 60), r.Intn(len(g.scripts))
		if othersSwap(g, mustPlay(t, g.w, g.scripts, picks), thread) {
			others++
			continue
		}
		a := tell(t, g, alone(picks, thread, 300))
		for at, ans := range a.p.Answers[thread] {
			act := g.scripts[thread][at]
			if act.Kind != llx.Swap || ans.From < len(picks) || ans.Code == -1 {
				continue
			}
			fresh := !slices.ContainsFunc(act.V, func(n int) bool { return a.linkAhead(thread, at, n).From < len(picks) })
			if fresh {
				swaps++
			}
			if fresh && ans.Code != 1 {
				t.Fatalf("%v behind %v: thread %d's Swap %d answers %d", g, picks, thread, at, ans.Code)
			}
		}
	}
	if swaps < 1000 || others < 300 {
		t.Errorf("too little was tried: %d Swaps, %d left out", swaps, others)
	}
}
