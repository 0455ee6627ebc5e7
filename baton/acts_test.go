package baton_test

import (
	"math"
	"math/rand"
	"slices"
	"testing"

	"larch/api"
	"larch/baton"
	"larch/cell"
)

func add(at, n int) cell.Act         { return cell.Act{Kind: api.Add, At: at, A: n} }
func loadOf(at int) cell.Act         { return cell.Act{Kind: api.Load, At: at} }
func storeOf(at, n int) cell.Act     { return cell.Act{Kind: api.Store, At: at, A: n} }
func casOf(at, old, n int) cell.Act  { return cell.Act{Kind: api.Cas, At: at, A: old, B: n} }
func did(worker, kind int) api.Step  { return api.Step{Worker: worker, Kind: kind} }
func last(worker, kind int) api.Step { return api.Step{Worker: worker, Kind: kind, Ended: true} }
func nothing(pick int) api.Step      { return api.Step{Worker: pick, Kind: -1} }

func wantPlayed(t *testing.T, what string, cells []int, scripts [][]cell.Act, picks []int, want baton.Played) {
	t.Helper()
	got, e := baton.Play(cells, scripts, picks)
	wantOK(t, what, e)
	if !samePlayed(got, want) {
		t.Errorf("%s: Play(%v, %v, %v) = %v, want %v", what, cells, scripts, picks, got, want)
	}
}

func TestPlayByExamples(t *testing.T) { // P4.1
	scripts := [][]cell.Act{{add(0, 1), add(0, 1)}, {loadOf(0), storeOf(0, 9)}}
	wantPlayed(t, "example 1", []int{0}, scripts, []int{1, 0, 1, 0}, baton.Played{
		Told: baton.Told{
			Steps:  []api.Step{did(1, api.Load), did(0, api.Add), last(1, api.Store), last(0, api.Add)},
			Ended:  []bool{true, true},
			Panics: []bool{false, false},
		},
		Answers: [][]int{{1, 10}, {0, 0}},
		Cells:   []int{10},
	})
	wantPlayed(t, "example 2", []int{0}, scripts, []int{1, 1, 5, -1, 1}, baton.Played{
		Told: baton.Told{
			Steps:  []api.Step{did(1, api.Load), last(1, api.Store), nothing(5), nothing(-1), nothing(1)},
			Ended:  []bool{false, true},
			Panics: []bool{false, false},
		},
		Answers: [][]int{nil, {0, 0}},
		Cells:   []int{9},
	})
	swaps := []cell.Act{loadOf(0), casOf(0, 0, 1)}
	wantPlayed(t, "example 3", []int{0}, [][]cell.Act{swaps, swaps}, []int{0, 1, 0, 1}, baton.Played{
		Told: baton.Told{
			Steps:  []api.Step{did(0, api.Load), did(1, api.Load), last(0, api.Cas), last(1, api.Cas)},
			Ended:  []bool{true, true},
			Panics: []bool{false, false},
		},
		Answers: [][]int{{0, 1}, {0, 0}},
		Cells:   []int{1},
	})
	wantPlayed(t, "a script of no acts", nil, [][]cell.Act{nil, {}}, []int{0, 1}, baton.Played{
		Told:    baton.Told{Steps: []api.Step{nothing(0), nothing(1)}, Ended: []bool{true, true}, Panics: []bool{false, false}},
		Answers: [][]int{nil, nil},
	})
	wantPlayed(t, "no picks", []int{3}, scripts, nil, baton.Played{
		Told:    baton.Told{Ended: []bool{false, false}, Panics: []bool{false, false}},
		Answers: [][]int{nil, nil},
		Cells:   []int{3},
	})
}

func TestPlayUnderAllPicks(t *testing.T) { // P4.1
	scripts := [][]cell.Act{{loadOf(0), casOf(0, 5, 6)}, {}, {{Kind: api.Or, At: 0, A: 8}, {Kind: api.Swap, At: 1, A: 4}, {Kind: api.And, At: 0, A: 5}}}
	for length := range 6 {
		for _, picks := range allPicks(3, length) {
			wantPlayed(t, "all picks", []int{5, 7}, scripts, picks, playByMachine([]int{5, 7}, scripts, picks))
		}
	}
}

// someAct is one on one of so many cells.
func someAct(r *rand.Rand, cells int) cell.Act {
	ends := []int{0, 1, 2, -1, math.MaxInt, math.MinInt}
	return cell.Act{Kind: 1 + r.Intn(7), At: r.Intn(cells), A: ends[r.Intn(6)], B: ends[r.Intn(6)]}
}

func somePicks(r *rand.Rand, workers, most int) []int {
	picks := make([]int, r.Intn(most))
	for i := range picks {
		picks[i] = r.Intn(workers+2) - 1
	}
	return picks
}

func someScripts(r *rand.Rand, workers, cells int) [][]cell.Act {
	scripts := make([][]cell.Act, workers)
	for w := range scripts {
		for range r.Intn(8) {
			scripts[w] = append(scripts[w], someAct(r, cells))
		}
	}
	return scripts
}

func TestPlayIsTheMachine(t *testing.T) { // P4.1
	r := rand.New(rand.NewSource(1))
	for range 1000 {
		cells := make([]int, 1+r.Intn(3))
		for i := range cells {
			cells[i] = r.Intn(3)
		}
		scripts := someScripts(r, 1+r.Intn(6), len(cells))
		picks := somePicks(r, len(scripts), 40)
		wantPlayed(t, "at random", cells, scripts, picks, playByMachine(cells, scripts, picks))
	}
}

func TestPlayAtTheLimits(t *testing.T) { // P4.1
	cells := make([]int, 64)
	scripts := make([][]cell.Act, 64)
	for w := range scripts {
		for range 1000 {
			scripts[w] = append(scripts[w], add(w, w))
		}
	}
	picks, _ := baton.Robin(64, 1000)
	wantPlayed(t, "all is as big as it may be", cells, scripts, picks, playByMachine(cells, scripts, picks))
	if p, e := baton.Play(nil, [][]cell.Act{nil}, make([]int, 1000000)); e != api.OK || len(p.Steps) != 1000000 {
		t.Errorf("Play of 1000000 picks: %d steps, %d", len(p.Steps), e)
	}
}

func TestPlayRefused(t *testing.T) { // P4.1
	wrong, outside := cell.Act{Kind: 9}, cell.Act{Kind: api.Load, At: 1}
	long := make([]cell.Act, 1001)
	fine := [][]cell.Act{{loadOf(0)}}
	for _, c := range []struct {
		name    string
		cells   []int
		scripts [][]cell.Act
		picks   []int
		want    api.Errno
	}{
		{"no worker", []int{0}, nil, nil, api.ErrArg},
		{"an empty list of workers", []int{0}, [][]cell.Act{}, nil, api.ErrArg},
		{"65 workers", []int{0}, make([][]cell.Act, 65), nil, api.ErrArg},
		{"too many picks", []int{0}, fine, make([]int, 1000001), api.ErrBig},
		{"a script of 1001 acts", []int{0}, [][]cell.Act{nil, long}, nil, api.ErrBig},
		{"65 cells", make([]int, 65), [][]cell.Act{nil}, nil, api.ErrBig},
		{"no such kind", []int{0}, [][]cell.Act{{wrong}}, nil, api.ErrKind},
		{"Start is no kind of an act", []int{0}, [][]cell.Act{{{Kind: api.Start}}}, nil, api.ErrKind},
		{"no such cell", []int{0}, [][]cell.Act{{outside}}, nil, api.ErrArg},
		{"a cell below 0", []int{0}, [][]cell.Act{{loadOf(-1)}}, nil, api.ErrArg},
		{"no cells", nil, fine, nil, api.ErrArg},
		{"the number of workers counts ahead of what is big", make([]int, 65), nil, make([]int, 1000001), api.ErrArg},
		{"and so does it ahead of an act", []int{0}, slices.Repeat([][]cell.Act{{wrong}}, 65), nil, api.ErrArg},
		{"what is big counts ahead of an act", []int{0}, [][]cell.Act{{wrong}, long}, nil, api.ErrBig},
		{"picks too", []int{0}, [][]cell.Act{{wrong}}, make([]int, 1000001), api.ErrBig},
		{"and cells", make([]int, 65), [][]cell.Act{{wrong}}, nil, api.ErrBig},
		{"the first worker's error counts", []int{0}, [][]cell.Act{{loadOf(0), outside}, {wrong}}, nil, api.ErrArg},
		{"the first place's error counts", []int{0}, [][]cell.Act{{}, {loadOf(0), wrong, outside}, {outside}}, nil, api.ErrKind},
		{"of one act the kind counts first", []int{0}, [][]cell.Act{{{Kind: 9, At: 7}}}, nil, api.ErrKind},
	} {
		got, e := baton.Play(c.cells, c.scripts, c.picks)
		if e != c.want || !samePlayed(got, baton.Played{}) {
			t.Errorf("%s: %v, error %d, want %d", c.name, got, e, c.want)
		}
	}
}

func TestDriveByExamples(t *testing.T) { // P4.2
	bodies := []baton.Body{{Accesses: 2}, {Accesses: 1, Panic: true}, {}}
	steps := []api.Step{last(1, api.Load), did(0, api.Load), nothing(1), nothing(2)}
	panics := []bool{false, true, false}
	got, all, e := baton.Drive(bodies, []int{1}, 3)
	wantOK(t, "example 7, most 3", e)
	wantTold(t, "example 7, most 3", got, baton.Told{Steps: steps, Ended: []bool{false, true, true}, Panics: panics})
	if all {
		t.Error("example 7, most 3: all ended")
	}
	for _, most := range []int{4, 5, 1000000} {
		got, all, e = baton.Drive(bodies, []int{1}, most)
		wantOK(t, "example 7", e)
		wantTold(t, "example 7", got, baton.Told{Steps: append(slices.Clone(steps), last(0, api.Load)), Ended: []bool{true, true, true}, Panics: panics})
		if !all {
			t.Errorf("example 7, most %d: not all ended", most)
		}
	}
	for most, want := range []bool{false, false, false, true, true} {
		got, all, e := baton.Drive([]baton.Body{{Accesses: 3}}, nil, most)
		steps := min(most, 3)
		if e != api.OK || all != want || len(got.Steps) != steps || steps == 3 && !got.Steps[2].Ended {
			t.Errorf("example 6, most %d: %v, %v, %d", most, got, all, e)
		}
	}
}

func TestDriveIsTheMachine(t *testing.T) { // P4.2
	r := rand.New(rand.NewSource(2))
	for range 500 {
		bodies := make([]baton.Body, 1+r.Intn(5))
		for i := range bodies {
			bodies[i] = baton.Body{Accesses: r.Intn(4), Panic: r.Intn(3) == 0}
		}
		picks, most := somePicks(r, len(bodies), 10), r.Intn(20)
		want, wantAll := driveByMachine(bodies, picks, most)
		got, all, e := baton.Drive(bodies, picks, most)
		if e != api.OK || all != wantAll || !sameTold(got, want) {
			t.Fatalf("Drive(%v, %v, %d) = %v, %v, %d, want %v, %v", bodies, picks, most, got, all, e, want, wantAll)
		}
	}
}

func TestDriveEndsAtOnceWhenAllHaveEnded(t *testing.T) { // P4.2
	got, all, e := baton.Drive([]baton.Body{{}, {Panic: true}}, nil, 10)
	wantOK(t, "Drive", e)
	wantTold(t, "Drive of no accesses", got, baton.Told{Ended: []bool{true, true}, Panics: []bool{false, true}})
	if !all {
		t.Error("not all ended")
	}
	got, all, e = baton.Drive([]baton.Body{{}}, []int{0, 3}, 10)
	wantOK(t, "Drive", e)
	wantTold(t, "Drive whose list goes on", got, baton.Told{Steps: []api.Step{nothing(0), nothing(3)}, Ended: []bool{true}, Panics: []bool{false}})
	if !all {
		t.Error("not all ended")
	}
}

func TestDriveAtTheLimits(t *testing.T) { // P4.2
	got, all, e := baton.Drive(slices.Repeat([]baton.Body{{Accesses: 1000}}, 64), nil, 1000000)
	if e != api.OK || !all || len(got.Steps) != 64000 {
		t.Errorf("Drive as big as it may be: %d steps, %v, %d", len(got.Steps), all, e)
	}
}

func TestDriveRefused(t *testing.T) { // P4.2
	many := make([]int, 1000001)
	for _, c := range []struct {
		name   string
		bodies []baton.Body
		picks  []int
		most   int
		want   api.Errno
	}{
		{"no worker", nil, nil, 0, api.ErrArg},
		{"65 workers", make([]baton.Body, 65), nil, 0, api.ErrArg},
		{"most below 0", []baton.Body{{}}, nil, -1, api.ErrArg},
		{"Accesses below 0", []baton.Body{{}, {Accesses: -1}}, nil, 0, api.ErrArg},
		{"too many picks", []baton.Body{{}}, many, 0, api.ErrBig},
		{"most too big", []baton.Body{{}}, nil, 1000001, api.ErrBig},
		{"Accesses too big", []baton.Body{{}, {Accesses: 1001}}, nil, 0, api.ErrBig},
		{"the ends of the ints", []baton.Body{{Accesses: math.MinInt}, {Accesses: math.MaxInt}}, nil, math.MaxInt, api.ErrArg},
		{"a wrong number of workers counts ahead of what is big", nil, many, 1000001, api.ErrArg},
		{"a wrong most too", []baton.Body{{Accesses: 1001}}, many, -1, api.ErrArg},
		{"and wrong Accesses", []baton.Body{{Accesses: 1001}, {Accesses: -1}}, many, 1000001, api.ErrArg},
	} {
		got, all, e := baton.Drive(c.bodies, c.picks, c.most)
		if e != c.want || all || !sameTold(got, baton.Told{}) {
			t.Errorf("%s: %v, %v, error %d, want %d", c.name, got, all, e, c.want)
		}
	}
}
