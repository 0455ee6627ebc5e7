package llx_test

import (
	"fmt"
	"slices"
	"testing"

	"larch/api"
	"larch/llx"
	"larch/record"
)

// roomy: a list with spare room behind it.
func roomy[T any](spare T, list ...T) []T {
	room := append(list, spare, spare, spare)
	return room[:len(list):len(room)]
}

// scribble writes all over a list, spare room included.
func scribble[T any](list []T, with T) {
	for i := range list[:cap(list)] {
		list[:cap(list)][i] = with
	}
}

// asset is what a call is handed, all with spare room.
type asset struct {
	w       record.World
	scripts [][]llx.Act
	picks   []int
}

func newAsset() asset {
	row := func(list ...int) []int { return roomy(66, list...) }
	flags := func(list ...bool) []bool { return roomy(true, list...) }
	odd := llx.Act{Kind: 99, At: 98, New: 97}
	script := func(list ...llx.Act) []llx.Act { return roomy(odd, list...) }
	return asset{
		w: record.World{Fields: roomy(row(67), row(1, -1), row(), row(0), row()), Infos: row(-1, 1, -1, -1), Marks: flags(false, false, false, false), States: row(1, 2), Frozen: flags(true, false)},
		scripts: roomy(script(odd),
			script(linkOf(0), linkOf(1), llx.Act{Kind: llx.Swap, V: row(0, 1), Fin: flags(false, true), Field: 1, New: 2}, linkOf(0), linkOf(1)),
			script(linkOf(0), llx.Act{Kind: llx.Check, V: row(0), Fin: flags()}, llx.Act{Kind: llx.Swap, V: row(0), Fin: flags(true), New: 3}, llx.Act{Kind: llx.Link, V: row(5)}),
			script()),
		picks: roomy(1, slices.Concat(times(15, 0), times(9, 1), []int{2, 0, 1, 0, 1, 0, 9, 1}, times(9, 1), times(30, 0), times(9, 1))...),
	}
}

// spread: the list and its spare room.
func spread[T any](list []T) string { return fmt.Sprint(len(list), list[:cap(list)]) }

// picture: all of it, spare room included.
func (a asset) picture() string {
	text := spread(a.w.Fields) + spread(a.w.Infos) + spread(a.w.Marks) + spread(a.w.States) + spread(a.w.Frozen) + spread(a.scripts) + spread(a.picks)
	for _, fields := range a.w.Fields[:cap(a.w.Fields)] {
		text += spread(fields)
	}
	for _, script := range a.scripts[:cap(a.scripts)] {
		text += spread(script)
		for _, act := range script {
			text += spread(act.V) + spread(act.Fin)
		}
	}
	return text
}

func TestNothingHandedInIsChanged(t *testing.T) { // P14.7
	a := newAsset()
	for name, call := range map[string]func() api.Errno{
		"Form":    func() api.Errno { return llx.Form(a.w, a.scripts) },
		"Play":    func() api.Errno { _, e := llx.Play(a.w, a.scripts, a.picks); return e },
		"Moments": func() api.Errno { _, e := llx.Moments(a.w, a.scripts, a.picks); return e },
		"refused": func() api.Errno {
			_, e := llx.Play(a.w, a.scripts[:6], a.picks)
			return e - api.ErrKind
		},
	} {
		before := a.picture()
		if e := call(); e != api.OK {
			t.Errorf("%s: %d", name, e)
		}
		if a.picture() != before {
			t.Errorf("%s has changed what it was handed", name)
		}
	}
}

// numbersOf: the lists of numbers of an answer.
func numbersOf(p llx.Played) [][]int {
	lists := slices.Concat(p.World.Fields, [][]int{p.World.Infos, p.World.States})
	for _, answers := range p.Answers {
		for _, a := range answers {
			lists = append(lists, a.Fields)
		}
	}
	return lists
}

// TestAnswersAreNewMemory: writing all over the answers changes neither what was handed in nor later answers.
func TestAnswersAreNewMemory(t *testing.T) { // P14.7
	a := newAsset()
	before := a.picture()
	answers := func() string {
		p, _ := llx.Play(a.w, a.scripts, a.picks)
		m, _ := llx.Moments(a.w, a.scripts, a.picks)
		text := fmt.Sprint(p, m)
		for _, list := range slices.Concat(numbersOf(p), slices.Concat(m...)) {
			scribble(list, -555)
		}
		for _, rows := range m {
			scribble(rows, nil)
		}
		for _, list := range p.Answers {
			scribble(list, llx.Ans{Code: -556})
		}
		scribble(p.World.Marks, true)
		scribble(p.World.Frozen, true)
		scribble(p.World.Fields, nil)
		scribble(p.Steps, api.Step{Kind: -557})
		scribble(p.Answers, nil)
		scribble(m, nil)
		return text
	}
	want := answers()
	if got := answers(); got != want || a.picture() != before {
		t.Errorf("the answers share memory with what was handed in, or with earlier ones: %s, want %s", got, want)
	}
}

// checkApart: each list is written over with a number of its own; where two share memory, the later one shows in the earlier.
func checkApart(t *testing.T, lists [][]int) {
	t.Helper()
	for i, list := range lists {
		scribble(list, i)
	}
	for i, list := range lists {
		for _, n := range list {
			if n != i {
				t.Errorf("list %d shares memory with list %d", i, n)
			}
		}
	}
}

// TestAnswersShareNothing: writing to one list of an answer changes no other.
func TestAnswersShareNothing(t *testing.T) { // P14.7
	a := newAsset()
	p, _ := llx.Play(a.w, a.scripts, a.picks)
	checkApart(t, numbersOf(p))
	m, _ := llx.Moments(a.w, a.scripts, a.picks)
	checkApart(t, slices.Concat(m...))
	for i := range m { // the lists of lists
		for j, rows := range m {
			for n := range rows {
				rows[n] = []int{j}
			}
		}
		if m[i][0][0] != i {
			t.Errorf("moment %d shares memory with another one", i)
		}
	}
	scribble(p.World.Marks, false)
	scribble(p.World.Frozen, true)
	if slices.Contains(p.World.Marks, true) {
		t.Error("Marks and Frozen share memory")
	}
	scribble(p.Answers[0], llx.Ans{Code: -9})
	for _, ans := range p.Answers[1] {
		if ans.Code == -9 {
			t.Error("the threads' answers share memory")
		}
	}
}

// TestPlaysShareNothing: what one play does isn't seen by the next.
func TestPlaysShareNothing(t *testing.T) { // P14.7
	for range 3 {
		wantPlay(t, example(), threads(acts(linkOf(0), swapIt())), make([]int, 11))
		wantMoments(t, example(), threads(acts(linkOf(0), swapIt())), make([]int, 11))
	}
}

// TestLinksAreTheirOwn: what LLX answers shares no memory with the record, with other links, or with the SCX-record that is made of it.
func TestLinksAreTheirOwn(t *testing.T) { // P14.1, P14.7
	a, b := record.New(1), record.New(2)
	r := record.New(0, a, b)
	one, _ := llx.LLX(nil, r)
	two, _ := llx.LLX(nil, r)
	scribble(one.Fields, nil)
	if !slices.Equal(two.Fields, []*record.Record[int]{a, b}) || r.Get(nil, 0) != a || r.Get(nil, 1) != b {
		t.Error("two links share their fields, or the record's")
	}
	v, fin := roomy(one, two), roomy(true, false)
	if !llx.VLX(nil, v) || !llx.SCX(nil, v, fin, 0, 1, a) {
		t.Fatal("VLX or SCX fails")
	}
	if !slices.Equal(v[0].Fields, []*record.Record[int]{a, b}) || v[0].R != r || v[0].Info != two.Info || v[:2][1].R != r || v[:2][1].Fields[0] != nil || fin[0] || !fin[:4][1] {
		t.Error("VLX or SCX has changed what it was handed")
	}
	s := r.Info(nil)
	scribble(fin, true)
	scribble(v, llx.Linked[int]{})
	if s.Fin[0] || s.V[0] != r || s.Infos[0] != two.Info || s.Old != b {
		t.Error("SCX has kept what it was handed")
	}
}
