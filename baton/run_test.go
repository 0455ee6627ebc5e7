package baton_test

import (
	"errors"
	"math"
	"math/rand"
	"runtime"
	"slices"
	"strconv"
	"sync/atomic"
	"testing"
	"time"

	"larch/api"
	"larch/baton"
	"larch/cell"
)

func TestRunLetsThePickedOneGoOn(t *testing.T) { // P4.2
	var diary []string // no lock: the race detector would see two that go on at a time
	note := func(worker int, what string) { diary = append(diary, strconv.Itoa(worker)+what) }
	told, e := baton.Run(3, []int{2, 0, 2, 0, 7, 1}, func(worker int, g cell.Gate) {
		note(worker, " begins")
		if worker == 1 {
			return
		}
		g.Pass(10 + worker)
		note(worker, " goes on")
		g.Pass(-1) // any number is a kind
		note(worker, " ends")
	})
	wantOK(t, "Run", e)
	wantTold(t, "Run", told, baton.Told{
		Steps:  []api.Step{did(2, 12), did(0, 10), last(2, -1), last(0, -1), nothing(7), nothing(1)},
		Ended:  []bool{true, true, true},
		Panics: []bool{false, false, false},
	})
	want := []string{"0 begins", "1 begins", "2 begins", "2 goes on", "0 goes on", "2 ends", "0 ends"}
	if !slices.Equal(diary, want) {
		t.Errorf("the workers did %q, want %q", diary, want)
	}
}

func TestRunGoesOnWithOneAtATime(t *testing.T) { // P4.2
	var within atomic.Int32
	picks, _ := baton.Robin(64, 20)
	_, e := baton.Run(64, picks, func(_ int, g cell.Gate) {
		for range 10 {
			if within.Add(1) != 1 {
				t.Error("two workers go on at a time")
			}
			runtime.Gosched()
			within.Add(-1)
			g.Pass(api.Load)
		}
	})
	wantOK(t, "Run", e)
}

func TestRunEndsWhoStands(t *testing.T) { // P4.2
	var diary []string
	shared := cell.NewNum(0)
	told, e := baton.Run(3, []int{1, 1, 1}, func(worker int, g cell.Gate) {
		defer func() { diary = append(diary, strconv.Itoa(worker)+" deferred") }()
		defer shared.Add(g, 100) // of those that are ended, the gate throws at once, and the access isn't done
		if worker == 1 {
			g.Pass(api.Start)
			g.Pass(api.Start)
			return
		}
		shared.Add(g, 1)
		t.Errorf("worker %d went on behind its gate", worker)
	})
	wantOK(t, "Run", e)
	wantTold(t, "Run", told, baton.Told{
		Steps:  []api.Step{did(1, api.Start), did(1, api.Start), last(1, api.Add)},
		Ended:  []bool{false, true, false},
		Panics: []bool{false, false, false},
	})
	if want := []string{"1 deferred", "0 deferred", "2 deferred"}; !slices.Equal(diary, want) {
		t.Errorf("deferred calls: %q, want %q", diary, want)
	}
	if shared.Load(nil) != 100 {
		t.Errorf("the number holds %d, want 100", shared.Load(nil))
	}
}

func TestDeferredGatesThrowAgainAtOnce(t *testing.T) { // P4.2
	tries := 0
	told, e := baton.Run(1, nil, func(_ int, g cell.Gate) {
		for range 3 { // each of the calls comes to its gate
			defer func() {
				tries++
				g.Pass(api.Load)
				t.Error("a deferred call passed the gate of a worker that was ended")
			}()
		}
		g.Pass(api.Start)
	})
	wantOK(t, "Run", e)
	wantTold(t, "Run", told, baton.Told{Ended: []bool{false}, Panics: []bool{false}})
	if tries != 3 {
		t.Errorf("%d deferred calls ran, want 3", tries)
	}
}

func TestRunEndsWhoStandsInTheMidstOfAPanic(t *testing.T) { // P4.2
	body := func(_ int, g cell.Gate) {
		defer g.Pass(api.Load)
		panic("its own")
	}
	told, _ := baton.Run(1, nil, body)
	wantTold(t, "ended at the deferred gate", told, baton.Told{Ended: []bool{false}, Panics: []bool{false}})
	told, _ = baton.Run(1, []int{0}, body)
	wantTold(t, "picked at the deferred gate", told, baton.Told{Steps: []api.Step{last(0, api.Load)}, Ended: []bool{true}, Panics: []bool{true}})
}

func TestRunTellsAllKindsOfPanics(t *testing.T) { // P4.2
	var list []int
	for name, fail := range map[string]func(){
		"a text":          func() { panic("text") },
		"a number":        func() { panic(0) },
		"an empty struct": func() { panic(struct{}{}) },
		"an error":        func() { panic(errors.New("error")) },
		"nil":             func() { panic(nil) },
		"an index":        func() { list[7]++ },
		"a panic twice":   func() { defer panic("second"); panic("first") },
	} {
		for _, behind := range []int{0, 1, 2} {
			told, e := baton.Run(2, []int{0, 0, 0, 1}, func(worker int, g cell.Gate) {
				for range behind {
					g.Pass(api.Load)
				}
				if worker == 0 {
					fail()
				}
			})
			want, _ := machine([]line{
				{slices.Repeat([]deed{{api.Load, func() {}}}, behind), true},
				{slices.Repeat([]deed{{api.Load, func() {}}}, behind), false},
			}, []int{0, 0, 0, 1}, 0)
			wantOK(t, name, e)
			wantTold(t, name, told, want)
		}
	}
}

func TestRunOfAPanicThatIsRecovered(t *testing.T) { // P4.2
	told, _ := baton.Run(1, []int{0, 0}, func(_ int, g cell.Gate) {
		func() {
			defer func() { recover() }()
			panic("its own, and recovered")
		}()
		g.Pass(api.Load)
	})
	wantTold(t, "Run", told, baton.Told{Steps: []api.Step{last(0, api.Load), nothing(0)}, Ended: []bool{true}, Panics: []bool{false}})
}

func TestRunWithinRun(t *testing.T) { // P4.2
	told, e := baton.Run(2, []int{1}, func(_ int, g cell.Gate) {
		inner, _ := baton.Run(2, []int{0}, func(_ int, within cell.Gate) { within.Pass(api.Or) })
		wantTold(t, "the run within", inner, baton.Told{Steps: []api.Step{last(0, api.Or)}, Ended: []bool{true, false}, Panics: []bool{false, false}})
		g.Pass(api.And)
	})
	wantOK(t, "Run", e)
	wantTold(t, "Run", told, baton.Told{Steps: []api.Step{last(1, api.And)}, Ended: []bool{false, true}, Panics: []bool{false, false}})
}

// threeLoads: a body of three accesses.
func threeLoads(_ int, g cell.Gate) {
	for range 3 {
		g.Pass(api.Load)
	}
}

func TestFinishByExamples(t *testing.T) { // P4.2
	told, all, e := baton.Finish(1, nil, 2, threeLoads)
	wantOK(t, "most 2", e)
	wantTold(t, "most 2", told, baton.Told{Steps: []api.Step{did(0, api.Load), did(0, api.Load)}, Ended: []bool{false}, Panics: []bool{false}})
	if all {
		t.Error("most 2: all ended")
	}
	told, all, e = baton.Finish(1, nil, 3, threeLoads)
	wantOK(t, "most 3", e)
	wantTold(t, "most 3", told, baton.Told{Steps: []api.Step{did(0, api.Load), did(0, api.Load), last(0, api.Load)}, Ended: []bool{true}, Panics: []bool{false}})
	if !all {
		t.Error("most 3: not all ended")
	}
}

func TestFinishIsTheMachine(t *testing.T) { // P4.2
	r := rand.New(rand.NewSource(4))
	for range 300 {
		lines := make([]line, 1+r.Intn(4))
		for w := range lines {
			lines[w].panics = r.Intn(3) == 0
			for range r.Intn(4) {
				lines[w].deeds = append(lines[w].deeds, deed{r.Intn(9) - 1, func() {}})
			}
		}
		picks, most := somePicks(r, len(lines), 8), r.Intn(16)
		want, wantAll := machine(lines, picks, most)
		told, all, e := baton.Finish(len(lines), picks, most, func(worker int, g cell.Gate) {
			for _, d := range lines[worker].deeds {
				g.Pass(d.kind)
			}
			if lines[worker].panics {
				panic(lines)
			}
		})
		wantOK(t, "Finish", e)
		wantTold(t, "Finish", told, want)
		if all != wantAll {
			t.Errorf("Finish: all ended: %v, want %v", all, wantAll)
		}
	}
}

func TestRunAndFinishRefused(t *testing.T) { // P4.2
	many := make([]int, 1000001)
	for _, c := range []struct {
		name  string
		n     int
		picks []int
		most  int
		none  bool // no body
		want  api.Errno
	}{
		{name: "no body", n: 1, none: true, want: api.ErrNil},
		{name: "no body counts ahead of all", n: 0, picks: many, most: -1, none: true, want: api.ErrNil},
		{name: "no worker", n: 0, want: api.ErrArg},
		{name: "fewer than none", n: math.MinInt, want: api.ErrArg},
		{name: "65 workers", n: 65, want: api.ErrArg},
		{name: "workers without bound", n: math.MaxInt, want: api.ErrArg},
		{name: "too many picks", n: 1, picks: many, want: api.ErrBig},
		{name: "the number of workers counts ahead of the picks", n: 65, picks: many, want: api.ErrArg},
	} {
		body := func(int, cell.Gate) { t.Errorf("%s: a worker has run", c.name) }
		if c.none {
			body = nil
		}
		if told, e := baton.Run(c.n, c.picks, body); e != c.want || !sameTold(told, baton.Told{}) {
			t.Errorf("%s: Run = %v, error %d, want %d", c.name, told, e, c.want)
		}
		if told, all, e := baton.Finish(c.n, c.picks, c.most, body); e != c.want || all || !sameTold(told, baton.Told{}) {
			t.Errorf("%s: Finish = %v, %v, error %d, want %d", c.name, told, all, e, c.want)
		}
	}
	for _, c := range []struct {
		picks []int
		most  int
		want  api.Errno
	}{{nil, -1, api.ErrArg}, {nil, math.MinInt, api.ErrArg}, {many, -1, api.ErrArg}, {nil, 1000001, api.ErrBig}, {nil, math.MaxInt, api.ErrBig}} {
		told, all, e := baton.Finish(1, c.picks, c.most, func(int, cell.Gate) { t.Error("a worker has run") })
		if e != c.want || all || !sameTold(told, baton.Told{}) {
			t.Errorf("Finish, most %d: %v, %v, error %d, want %d", c.most, told, all, e, c.want)
		}
	}
}

func TestRunAndFinishAtTheLimits(t *testing.T) { // P4.2
	forever := func(_ int, g cell.Gate) {
		for {
			g.Pass(api.Load)
		}
	}
	picks, _ := baton.Robin(64, 15625)
	told, e := baton.Run(64, picks, forever)
	if e != api.OK || len(baton.Thin(told.Steps)) != 1000000 || slices.Contains(told.Ended, true) {
		t.Errorf("Run of 1000000 picks: %d steps, error %d", len(told.Steps), e)
	}
	told, all, e := baton.Finish(2, make([]int, 1000), 1000000, forever)
	if e != api.OK || all || len(told.Steps) != 1001000 {
		t.Errorf("Finish with most 1000000: %d steps, %v, error %d", len(told.Steps), all, e)
	}
}

func TestPicksThatDoNothingChangeNothing(t *testing.T) { // P4.4
	r := rand.New(rand.NewSource(5))
	for range 300 {
		scripts := someScripts(r, 1+r.Intn(4), 2)
		picks := somePicks(r, len(scripts), 40)
		whole, _ := baton.Play([]int{1, 2}, scripts, picks)
		thin, e := baton.Play([]int{1, 2}, scripts, baton.Thin(whole.Steps))
		wantOK(t, "Play", e)
		whole.Steps = slices.DeleteFunc(whole.Steps, func(s api.Step) bool { return s.Kind == -1 })
		if !samePlayed(whole, thin) {
			t.Fatalf("Play(%v, %v) = %v, and of the thin picks %v", scripts, picks, whole, thin)
		}
		ops := make([][]api.Op, len(scripts))
		for w, script := range scripts {
			for _, a := range script {
				ops[w] = append(ops[w], api.Op{Kind: 1 + a.Kind%9, Val: a.A})
			}
		}
		told, history, _ := baton.Echo(ops, picks)
		toldThin, historyThin, e := baton.Echo(ops, baton.Thin(told.Steps))
		wantOK(t, "Echo", e)
		if !sameHistory(history, historyThin) || !slices.Equal(told.Ended, toldThin.Ended) || !slices.Equal(told.Panics, toldThin.Panics) {
			t.Fatalf("Echo(%v, %v) = %v, %v, and of the thin picks %v, %v", ops, picks, told, history, toldThin, historyThin)
		}
	}
}

func TestPicksGoOn(t *testing.T) { // P4.5
	r := rand.New(rand.NewSource(6))
	for range 50 {
		scripts := someScripts(r, 1+r.Intn(4), 2)
		picks := somePicks(r, len(scripts), 30)
		whole, _ := baton.Play([]int{1, 2}, scripts, picks)
		for cut := range len(picks) + 1 {
			begun, e := baton.Play([]int{1, 2}, scripts, picks[:cut])
			wantOK(t, "Play", e)
			if !slices.Equal(begun.Steps, whole.Steps[:cut]) {
				t.Fatalf("the first %d picks of %v: %v, want the beginning of %v", cut, picks, begun.Steps, whole.Steps)
			}
			for w, answers := range begun.Answers {
				if !slices.Equal(answers, whole.Answers[w][:len(answers)]) {
					t.Fatalf("the first %d picks of %v: worker %d answers %v, in the whole %v", cut, picks, w, answers, whole.Answers[w])
				}
			}
		}
	}
}

func TestNothingGoesOn(t *testing.T) { // P4.6
	before := runtime.NumGoroutine()
	scripts := slices.Repeat([][]api.Op{{{Kind: 8, Val: 1}, {Kind: 9}}}, 64)
	for range 20 {
		baton.Echo(scripts, []int{1, 2, 3, 3, 2, 1, 1, 1})
		baton.Drive(slices.Repeat([]baton.Body{{Accesses: 5, Panic: true}}, 64), []int{5, 5, 5, 5, 5, 6}, 30)
		baton.Run(64, nil, threeLoads)
		baton.Play([]int{0}, [][]cell.Act{{add(0, 1)}, {add(0, 1)}}, []int{1})
	}
	for end := time.Now().Add(5 * time.Second); runtime.NumGoroutine() > before; time.Sleep(time.Millisecond) {
		if time.Now().After(end) {
			t.Fatalf("%d goroutines are left", runtime.NumGoroutine()-before)
		}
	}
}

func TestWorkersAreJoined(t *testing.T) { // P4.6
	for range 200 {
		left := 64 // the race detector would see one that is still at its deferred call
		baton.Run(64, []int{3, 3, 3, 9}, func(_ int, g cell.Gate) {
			defer func() { left-- }()
			threeLoads(0, g)
		})
		if left != 0 {
			t.Fatalf("%d workers hadn't ended", left)
		}
	}
}

func TestRunsKeepAndChangeNothing(t *testing.T) { // P4.6
	cells := []int{4, 5, 6}
	acts := []cell.Act{add(0, 1), storeOf(1, 3), loadOf(0)}
	picks := []int{0, 1, 9, 0, 1, 1, 1}
	call := func() baton.Played {
		p, _ := baton.Play(cells[:2], [][]cell.Act{acts[:2], acts[:1]}, picks[:5])
		return p
	}
	first, kept := call(), call()
	if first.Cells[0] != 6 || !samePlayed(first, kept) {
		t.Errorf("Play = %v, and at another call %v", first, kept)
	}
	_ = append(first.Answers[0], 77)
	_ = append(first.Ended, true)
	clear(first.Answers[0])
	clear(first.Cells)
	clear(first.Steps)
	clear(first.Ended)
	if !slices.Equal(first.Answers[1], kept.Answers[1]) || !slices.Equal(first.Panics, kept.Panics) || !samePlayed(kept, call()) {
		t.Errorf("answers share memory: %v, %v", first, kept)
	}
	if !slices.Equal(cells, []int{4, 5, 6}) || !slices.Equal(picks, []int{0, 1, 9, 0, 1, 1, 1}) || !slices.Equal(acts, []cell.Act{add(0, 1), storeOf(1, 3), loadOf(0)}) {
		t.Errorf("what was handed in was changed: %v, %v, %v", cells, acts, picks)
	}
	bodies := []baton.Body{{Accesses: 1}, {Accesses: 2, Panic: true}}
	baton.Drive(bodies, picks, 5)
	ops := []api.Op{{Kind: 1, Val: 2}, {Kind: 3}}
	baton.Echo([][]api.Op{ops[:1]}, picks)
	if !slices.Equal(bodies, []baton.Body{{Accesses: 1}, {Accesses: 2, Panic: true}}) || !slices.Equal(ops, []api.Op{{Kind: 1, Val: 2}, {Kind: 3}}) || !slices.Equal(picks, []int{0, 1, 9, 0, 1, 1, 1}) {
		t.Errorf("what was handed in was changed: %v, %v, %v", bodies, ops, picks)
	}
}
