package help_test

import (
	"fmt"
	"slices"
	"testing"

	"larch/api"
	"larch/help"
	"larch/record"
)

// roomy: a list with spare room behind it.
func roomy[T any](spare T, list ...T) []T {
	room := append(list, spare, spare, spare)
	return room[:len(list):len(room)]
}

// scribble writes all over a list, spare room included.
func scribble[T any](list []T, with T) {
	for i := range list[:cap(list)] {
		list[:cap(list)][i] = with
	}
}

// asset is what a call is handed, all with spare room.
type asset struct {
	w       record.World
	plans   []help.Plan
	scripts [][]int
	picks   []int
}

func newAsset() asset {
	row := func(list ...int) []int { return roomy(66, list...) }
	flags := func(list ...bool) []bool { return roomy(true, list...) }
	return asset{
		w: record.World{Fields: roomy(row(67), row(1, -1), row(), row(0)), Infos: row(-1, 1, -1), Marks: flags(false, false, true), States: row(0, 2), Frozen: flags(false, false)},
		plans: roomy(help.Plan{At: 77},
			help.Plan{V: row(0, 1), Infos: row(-1, 1), Fin: flags(true, false), Old: 1, New: 2},
			help.Plan{V: row(2, 1), Infos: row(-1, 1), Fin: flags(false, true), Old: 0, New: -1}),
		scripts: roomy(row(68), row(0, 1), row(1, 0), row()),
		picks:   roomy(1, 0, 0, 1, 1, 0, 1, 2, 0, 1, 9, 0, 1, 0, 0, 0, 1, 1, 1, 0, 0, 1, 1, 1, 1, 1, 1, 1),
	}
}

// room: the list and its spare room.
func room[T any](list []T) string { return fmt.Sprint(len(list), list[:cap(list)]) }

// picture: all of it, spare room included.
func (a asset) picture() string {
	text := room(a.w.Fields) + room(a.w.Infos) + room(a.w.Marks) + room(a.w.States) + room(a.w.Frozen) + room(a.plans) + room(a.scripts) + room(a.picks)
	for _, p := range a.plans {
		text += room(p.V) + room(p.Infos) + room(p.Fin)
	}
	for _, list := range slices.Concat(a.w.Fields[:cap(a.w.Fields)], a.scripts[:cap(a.scripts)]) {
		text += room(list)
	}
	return text
}

func TestNothingHandedInIsChanged(t *testing.T) { // P13.6
	a := newAsset()
	for name, call := range map[string]func() api.Errno{
		"Check":   func() api.Errno { return help.Check(a.w, a.plans) },
		"Play":    func() api.Errno { _, e := help.Play(a.w, a.plans, a.scripts, a.picks); return e },
		"Kinds":   func() api.Errno { _, e := help.Kinds(a.w, a.plans, 1); return e },
		"refused": func() api.Errno { _, e := help.Play(a.w, a.plans[:5], a.scripts, a.picks); return e - api.ErrForm },
		"too": func() api.Errno {
			_, e := help.Play(a.w, a.plans, a.scripts[:6], a.picks)
			return e - api.ErrArg
		},
	} {
		before := a.picture()
		if e := call(); e != api.OK {
			t.Errorf("%s: %d", name, e)
		}
		if a.picture() != before {
			t.Errorf("%s has changed what it was handed", name)
		}
	}
}

// numbersOf: the lists of numbers of an answer.
func numbersOf(p help.Played) [][]int {
	return slices.Concat(p.World.Fields, p.Answers, [][]int{p.World.Infos, p.World.States})
}

// TestAnswersAreNewMemory: writing all over the answers changes neither what was handed in nor later answers.
func TestAnswersAreNewMemory(t *testing.T) { // P13.6
	a := newAsset()
	before := a.picture()
	answers := func() string {
		p, _ := help.Play(a.w, a.plans, a.scripts, a.picks)
		kinds, _ := help.Kinds(a.w, a.plans, 0)
		text := fmt.Sprint(p, kinds)
		for _, list := range append(numbersOf(p), kinds) {
			scribble(list, -555)
		}
		for _, list := range [][]bool{p.World.Marks, p.World.Frozen, p.Ended} {
			scribble(list, len(list) > 2)
		}
		scribble(p.Steps, api.Step{Kind: -556})
		scribble(p.World.Fields, nil)
		scribble(p.Answers, nil)
		return text
	}
	want := answers()
	if got := answers(); got != want || a.picture() != before {
		t.Errorf("the answers share memory with what was handed in, or with earlier ones: %s, want %s", got, want)
	}
}

// TestAnswersShareNothing: each list is written over with a number of its own; where two share memory, the later one shows in the earlier.
func TestAnswersShareNothing(t *testing.T) { // P13.6
	a := newAsset()
	p, _ := help.Play(a.w, a.plans, a.scripts, a.picks)
	if len(p.Answers[0])+len(p.Answers[1]) < 3 {
		t.Fatalf("too little has been answered: %v", p.Answers)
	}
	lists := numbersOf(p)
	for i, list := range lists {
		scribble(list, i)
	}
	for i, list := range lists {
		for _, n := range list {
			if n != i {
				t.Errorf("list %d shares memory with list %d", i, n)
			}
		}
	}
	flags := [][]bool{p.World.Marks, p.World.Frozen, p.Ended}
	for i, list := range flags {
		for _, other := range flags {
			scribble(other, false)
		}
		scribble(list, true)
		for j, other := range flags {
			if j != i && slices.Contains(other, true) {
				t.Errorf("flags %d share memory with flags %d", j, i)
			}
		}
	}
}

// TestPlaysShareNothing: what one play does isn't seen by the next.
func TestPlaysShareNothing(t *testing.T) { // P13.6
	for range 3 {
		wantPlay(t, example(1), plans(planP()), lists([]int{0}, []int{0}), []int{0, 1, 0, 1, 0, 0, 0, 0, 0, 1})
		wantKinds(t, example(1), plans(planP()), 0)
	}
}

// TestHelpChangesNoPlan: what an SCX-record says is as it was, and the lists that it was made of too.
func TestHelpChangesNoPlan(t *testing.T) { // P13.6
	c := newScene("a", "b")
	v, infos, fin := slices.Clone(c.s.V), slices.Clone(c.s.Infos), slices.Clone(c.s.Fin)
	for range 2 {
		help.Help(nil, c.s)
		if !slices.Equal(c.s.V, v) || !slices.Equal(c.s.Infos, infos) || !slices.Equal(c.s.Fin, fin) || c.s.At != 0 || c.s.Field != 1 || c.s.Old != c.old || c.s.New != c.fresh {
			t.Errorf("%v", c.s)
		}
	}
}
