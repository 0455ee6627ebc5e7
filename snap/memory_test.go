package snap_test

import (
	"fmt"
	"testing"

	"larch/api"
	"larch/snap"
)

// roomy: a list with spare room behind it.
func roomy[T any](spare T, list ...T) []T {
	room := append(list, spare, spare, spare)
	return room[:len(list):len(room)]
}

// asset is what a call is handed, all with spare room.
type asset struct {
	regs, picks   []int
	scripts       [][]snap.Op
	moments, nums [][]int
	ans           snap.Ans
}

func newAsset() asset {
	odd := snap.Op{Kind: 99, At: 98, A: 97, B: 96}
	mine := func(list ...snap.Op) []snap.Op { return roomy(odd, list...) }
	row := func(list ...int) []int { return roomy(66, list...) }
	return asset{
		regs:    row(4, 5),
		picks:   roomy(1, 0, 1, 0, 1, 0, 0, 0, 1, 2, 1, 1, 9, 1, 0, 0, 0, 0, 0, 0, 1, 1, 1, 1),
		scripts: roomy(mine(odd), mine(write(0, 1), look, turn(1, 5, 6), look), mine(look, trade(1, 7), look), mine()),
		moments: roomy(row(4, 5), row(4, 5), row(4), row(4, 5), row()),
		nums:    roomy(row(67), row(3, 1, 2), row(2, 1), row()),
		ans:     snap.Ans{All: row(4, 5), From: 0, To: 2},
	}
}

// picture: all of it, spare room included.
func (a asset) picture() string {
	text := fmt.Sprint(a.regs[:cap(a.regs)], a.picks[:cap(a.picks)], a.ans, a.ans.All[:cap(a.ans.All)])
	for _, script := range a.scripts[:cap(a.scripts)] {
		text += fmt.Sprint(len(script), script[:cap(script)])
	}
	for _, rows := range [][][]int{a.moments, a.nums} {
		for _, row := range rows[:cap(rows)] {
			text += fmt.Sprint(len(row), row[:cap(row)])
		}
	}
	return text
}

func TestNothingHandedInIsChanged(t *testing.T) { // P11.7
	a := newAsset()
	for name, call := range map[string]func() api.Errno{
		"Check":   func() api.Errno { return snap.Check(a.regs, a.scripts) },
		"Run":     func() api.Errno { _, e := snap.Run(a.regs, a.scripts, a.picks); return e },
		"Moments": func() api.Errno { _, e := snap.Moments(a.regs, a.scripts, a.picks); return e },
		"Between": func() api.Errno { _, e := snap.Between(a.moments, a.ans); return e },
		"Trades":  func() api.Errno { _, e := snap.Trades(9, a.nums); return e },
		"refused": func() api.Errno {
			_, e := snap.Run(a.regs, a.scripts[:cap(a.scripts)], a.picks)
			return e - api.ErrKind
		},
	} {
		before := a.picture()
		if e := call(); e != api.OK {
			t.Errorf("%s: %d", name, e)
		}
		if a.picture() != before {
			t.Errorf("%s has changed what it was handed", name)
		}
	}
}

// scribble writes all over a list, spare room included.
func scribble[T any](list []T, with T) {
	for i := range list[:cap(list)] {
		list[:cap(list)][i] = with
	}
}

// listsOf: the lists of numbers of a run's answer.
func listsOf(d snap.Done) [][]int {
	lists := [][]int{d.Regs}
	for _, answers := range d.Answers {
		for _, a := range answers {
			lists = append(lists, a.All)
		}
	}
	return lists
}

// TestAnswersAreNewMemory: writing all over the answers changes neither what was handed in nor later answers.
func TestAnswersAreNewMemory(t *testing.T) { // P11.7
	a := newAsset()
	before := a.picture()
	answers := func() string {
		d, _ := snap.Run(a.regs, a.scripts, a.picks)
		m, _ := snap.Moments(a.regs, a.scripts, a.picks)
		at, _ := snap.Between(a.moments, a.ans)
		f, _ := snap.Free(2, 3, 1, 1)
		all, _ := snap.Trades(9, a.nums)
		text := fmt.Sprint(d, m, at, f, all)
		for _, list := range append(append(listsOf(d), m...), at, f.Regs, all) {
			scribble(list, -555)
		}
		for _, list := range d.Answers {
			scribble(list, snap.Ans{Val: -556})
		}
		scribble(d.Steps, api.Step{Kind: -557})
		scribble(d.Answers, nil)
		scribble(m, nil)
		return text
	}
	want := answers()
	if got := answers(); got != want || a.picture() != before {
		t.Errorf("the answers share memory with what was handed in, or with earlier ones: %s, want %s", got, want)
	}
}

// checkApart: each list is written over with a number of its own; where two share memory, the later one shows in the earlier.
func checkApart(t *testing.T, lists [][]int) {
	t.Helper()
	for i, list := range lists {
		scribble(list, i)
	}
	for i, list := range lists {
		for _, n := range list {
			if n != i {
				t.Errorf("list %d shares memory with list %d", i, n)
			}
		}
	}
}

// TestAnswersShareNothing: writing to one list of an answer changes no other.
func TestAnswersShareNothing(t *testing.T) { // P11.7
	a := newAsset()
	d, _ := snap.Run(a.regs, a.scripts, a.picks)
	checkApart(t, listsOf(d))
	m, _ := snap.Moments(a.regs, a.scripts, a.picks)
	checkApart(t, m)
	scribble(d.Answers[0], snap.Ans{Val: -1})
	for _, ans := range d.Answers[1] {
		if ans.Val == -1 {
			t.Error("the threads' answers share memory")
		}
	}
}

// TestRunsShareNothing: what one run does isn't seen by the next.
func TestRunsShareNothing(t *testing.T) { // P11.7
	for range 3 {
		wantRun(t, []int{1}, threads(ops(write(0, 4), look)), make([]int, 5))
		wantMoments(t, []int{1}, threads(ops(write(0, 4), look)), make([]int, 5))
	}
}
