package baton_test

import (
	"reflect"
	"slices"
	"testing"

	"larch/api"
	"larch/baton"
	"larch/cell"
)

// deed is what a worker does in one pick: an access of that kind.
type deed struct {
	kind int
	do   func()
}

// line is all that a worker does, and whether a panic of its own ends it.
type line struct {
	deeds  []deed
	panics bool
}

// machine tells what a run does, without goroutines: the picks, and then so many more of all in turn.
func machine(lines []line, picks []int, most int) (baton.Told, bool) {
	at := make([]int, len(lines))
	told := baton.Told{Ended: make([]bool, len(lines)), Panics: make([]bool, len(lines))}
	look := func(w int) bool {
		told.Ended[w] = at[w] == len(lines[w].deeds)
		told.Panics[w] = told.Ended[w] && lines[w].panics
		return told.Ended[w]
	}
	for w := range lines {
		look(w)
	}
	pick := func(p int) {
		if p < 0 || p >= len(lines) || at[p] == len(lines[p].deeds) {
			told.Steps = append(told.Steps, api.Step{Worker: p, Kind: -1})
			return
		}
		d := lines[p].deeds[at[p]]
		d.do()
		at[p]++
		told.Steps = append(told.Steps, api.Step{Worker: p, Kind: d.kind, Ended: look(p)})
	}
	for _, p := range picks {
		pick(p)
	}
	for i := 0; i < most && slices.Contains(told.Ended, false); i++ {
		pick(i % len(lines))
	}
	return told, !slices.Contains(told.Ended, false)
}

// playByMachine: Play; each act is left to cell.Nums.
func playByMachine(cells []int, scripts [][]cell.Act, picks []int) baton.Played {
	p := baton.Played{Answers: make([][]int, len(scripts)), Cells: slices.Clone(cells)}
	lines := make([]line, len(scripts))
	for w, script := range scripts {
		for _, a := range script {
			lines[w].deeds = append(lines[w].deeds, deed{a.Kind, func() {
				answers, held, _, _ := cell.Nums(p.Cells, []cell.Act{a})
				p.Answers[w] = append(p.Answers[w], answers...)
				p.Cells = held
			}})
		}
	}
	p.Told, _ = machine(lines, picks, 0)
	return p
}

func driveByMachine(bodies []baton.Body, picks []int, most int) (baton.Told, bool) {
	lines := make([]line, len(bodies))
	for w, b := range bodies {
		lines[w] = line{slices.Repeat([]deed{{api.Load, func() {}}}, b.Accesses), b.Panic}
	}
	return machine(lines, picks, most)
}

func echoByMachine(scripts [][]api.Op, picks []int) (baton.Told, []api.Event) {
	var history []api.Event
	number := 0
	lines := make([]line, len(scripts))
	for w, script := range scripts {
		l := &lines[w]
		for _, op := range script {
			if l.panics {
				break
			}
			l.deeds = append(l.deeds, deed{api.Start, func() {
				history = append(history, api.Event{Thread: w, Op: op})
			}})
			adds := op.Kind
			if op.Kind == 9 {
				adds, l.panics = 1, true
			}
			for i := range adds {
				l.deeds = append(l.deeds, deed{api.Add, func() {
					number += op.Val
					if op.Kind < 9 && i == adds-1 {
						history = append(history, api.Event{Thread: w, Return: true, Op: op, Ret: api.Ret{Ok: true, Val: number}})
					}
				}})
			}
		}
	}
	told, _ := machine(lines, picks, 0)
	return told, history
}

func sameTold(a, b baton.Told) bool {
	return slices.Equal(a.Steps, b.Steps) && slices.Equal(a.Ended, b.Ended) && slices.Equal(a.Panics, b.Panics)
}

func sameLists(a, b [][]int) bool {
	return slices.EqualFunc(a, b, func(x, y []int) bool { return slices.Equal(x, y) })
}

func samePlayed(a, b baton.Played) bool {
	return sameTold(a.Told, b.Told) && sameLists(a.Answers, b.Answers) && slices.Equal(a.Cells, b.Cells)
}

func sameHistory(a, b []api.Event) bool {
	return slices.EqualFunc(a, b, func(x, y api.Event) bool {
		pairs := slices.Equal(x.Ret.Pairs, y.Ret.Pairs)
		x.Ret.Pairs, y.Ret.Pairs = nil, nil
		return pairs && reflect.DeepEqual(x, y)
	})
}

func wantTold(t *testing.T, what string, got, want baton.Told) {
	t.Helper()
	if !sameTold(got, want) {
		t.Errorf("%s = %v, want %v", what, got, want)
	}
}

func wantOK(t *testing.T, what string, e api.Errno) {
	t.Helper()
	if e != api.OK {
		t.Errorf("%s: error %d", what, e)
	}
}

// allPicks: each list of so many numbers from -1 to workers.
func allPicks(workers, length int) [][]int {
	lists := [][]int{nil}
	for range length {
		var longer [][]int
		for _, list := range lists {
			for p := -1; p <= workers; p++ {
				longer = append(longer, append(slices.Clone(list), p))
			}
		}
		lists = longer
	}
	return lists
}
