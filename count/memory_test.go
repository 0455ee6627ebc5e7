package count_test

import (
	"fmt"
	"testing"

	"larch/api"
	"larch/count"
)

// roomy: a list with spare room behind it.
func roomy[T any](spare T, list ...T) []T {
	room := append(list, spare, spare, spare)
	return room[:len(list):len(room)]
}

// asset is what a call is handed, all with spare room; free scripts for Free, others for the rest.
type asset struct {
	cells, picks  []int
	scripts, free [][]count.Op
}

func newAsset() asset {
	odd := count.Op{Kind: 99, At: 98, A: 97}
	mine := func(list ...count.Op) []count.Op { return roomy(odd, list...) }
	locked := count.Op{Kind: count.Locked, At: 0, A: 1}
	take, ticket := count.Op{Kind: count.Take, At: 2}, count.Op{Kind: count.Ticket, At: 3}
	return asset{
		cells:   roomy(77, 0, 4, 2, 9),
		picks:   roomy(1, 0, 1, 0, 1, 0, 0, 0, 1, 2, 1, 1, 9, 1, 0, 0, 0),
		scripts: roomy(mine(odd), mine(locked, count.Op{Kind: count.Sum}), mine(take, locked, inc), mine()),
		free:    roomy(mine(odd), mine(locked, ticket, take, ticket), mine(take, ticket, locked), mine()),
	}
}

// picture: all of it, spare room included.
func (a asset) picture() string {
	text := fmt.Sprint(a.cells[:cap(a.cells)], a.picks[:cap(a.picks)])
	for _, lists := range [][][]count.Op{a.scripts, a.free} {
		for _, script := range lists[:cap(lists)] {
			text += fmt.Sprint(len(script), script[:cap(script)])
		}
	}
	return text
}

func TestNothingHandedInIsChanged(t *testing.T) { // P8.7
	a := newAsset()
	for name, call := range map[string]func() api.Errno{
		"Check": func() api.Errno { return count.Check(a.cells, a.scripts) },
		"Run":   func() api.Errno { _, e := count.Run(a.cells, a.scripts, a.picks); return e },
		"Alone": func() api.Errno { _, _, e := count.Alone(a.cells, a.scripts[1]); return e },
		"Free":  func() api.Errno { _, e := count.Free(a.cells, a.free); return e },
		"Held":  func() api.Errno { _, e := count.Held(a.cells, a.scripts, a.picks, 0); return e },
		"refused": func() api.Errno {
			_, e := count.Run(a.cells, a.scripts[:cap(a.scripts)], a.picks)
			return e - api.ErrKind
		},
	} {
		before := a.picture()
		if e := call(); e != api.OK {
			t.Errorf("%s: %d", name, e)
		}
		if a.picture() != before {
			t.Errorf("%s has changed what it was handed", name)
		}
	}
}

// scribble writes all over the lists, spare room included.
func scribble(lists ...[]int) {
	for _, list := range lists {
		for i := range list[:cap(list)] {
			list[:cap(list)][i] = -555
		}
	}
}

func scribbleAnswers(lists ...[]count.Ans) {
	for _, list := range lists {
		for i := range list[:cap(list)] {
			list[:cap(list)][i] = count.Ans{Val: -556}
		}
	}
}

func TestAnswersAreNewMemory(t *testing.T) { // P8.7
	a := newAsset()
	before := a.picture()
	answers := func() string {
		d, _ := count.Run(a.cells, a.scripts, a.picks)
		alone, then, _ := count.Alone(a.cells, a.scripts[1])
		f, _ := count.Free(a.cells, a.free)
		text := fmt.Sprint(d, alone, then, f)
		scribble(d.Cells, then, f.Cells, f.Took)
		scribble(f.Tickets...)
		scribbleAnswers(alone)
		scribbleAnswers(d.Answers...)
		for i := range d.Steps[:cap(d.Steps)] {
			d.Steps[:cap(d.Steps)][i].Kind = -557
		}
		clear(d.Answers)
		clear(f.Tickets)
		return text
	}
	want := answers()
	if got := answers(); got != want || a.picture() != before {
		t.Errorf("the answers share memory with what was handed in, or with earlier ones: %s, want %s", got, want)
	}
}

// TestAnswersShareNothing: writing to one list of an answer changes no other.
func TestAnswersShareNothing(t *testing.T) { // P8.7
	a := newAsset()
	d, _ := count.Run(a.cells, a.scripts, a.picks)
	others := fmt.Sprint(d.Answers[1], d.Cells, d.Steps)
	scribbleAnswers(d.Answers[0])
	if fmt.Sprint(d.Answers[1], d.Cells, d.Steps) != others {
		t.Error("the first thread's answers share memory")
	}
	f, _ := count.Free(a.cells, threads(ops(count.Op{Kind: count.Ticket}, count.Op{Kind: count.Ticket, At: 1}), times(5, count.Op{Kind: count.Ticket})))
	others = fmt.Sprint(f.Tickets[1:], f.Took)
	scribble(f.Tickets[0], f.Cells)
	if fmt.Sprint(f.Tickets[1:], f.Took) != others {
		t.Error("the first cell's tickets share memory")
	}
}
