package record_test

import (
	"math/rand"
	"slices"
	"testing"

	"larch/api"
	"larch/record"
)

// What the chapter says, on numbers alone, without a record: the tests hold Play against it.

func clone(w record.World) record.World {
	c := record.World{Infos: slices.Clone(w.Infos), Marks: slices.Clone(w.Marks), States: slices.Clone(w.States), Frozen: slices.Clone(w.Frozen)}
	for _, fields := range w.Fields {
		c.Fields = append(c.Fields, slices.Clone(fields))
	}
	return c
}

func number(b bool) int {
	if b {
		return 1
	}
	return 0
}

// swap: if it holds old, it holds n; 1 if it did.
func swap(held *int, old, n int) int {
	if *held != old {
		return 0
	}
	*held = n
	return 1
}

// do does an act to the world: its answer, and the kind of its access.
func do(w record.World, a record.Act) (int, int) {
	switch a.Kind {
	case record.Get:
		return w.Fields[a.At][a.A], api.Load
	case record.Swing:
		return swap(&w.Fields[a.At][a.A], a.B, a.C), api.Cas
	case record.Info:
		return w.Infos[a.At], api.Load
	case record.Freeze:
		return swap(&w.Infos[a.At], a.B, a.C), api.Cas
	case record.Marked:
		return number(w.Marks[a.At]), api.Load
	case record.Mark:
		w.Marks[a.At] = true
	case record.State:
		return w.States[a.At], api.Load
	case record.Commit:
		w.States[a.At] = record.Committed
	case record.Abort:
		w.States[a.At] = record.Aborted
	case record.AllFrozen:
		return number(w.Frozen[a.At]), api.Load
	case record.SetAllFrozen:
		w.Frozen[a.At] = true
	}
	return 0, api.Store
}

func sameWorld(a, b record.World) bool {
	sameFields := slices.EqualFunc(a.Fields, b.Fields, func(x, y []int) bool { return slices.Equal(x, y) })
	return sameFields && slices.Equal(a.Infos, b.Infos) && slices.Equal(a.Marks, b.Marks) && slices.Equal(a.States, b.States) && slices.Equal(a.Frozen, b.Frozen)
}

// wantPlay: Play against the machine, of a world and acts that aren't refused.
func wantPlay(t *testing.T, w record.World, acts []record.Act) ([]int, record.World) {
	t.Helper()
	want, answers, kinds := clone(w), []int{}, []int{}
	for _, a := range acts {
		answer, kind := do(want, a)
		answers, kinds = append(answers, answer), append(kinds, kind)
	}
	gotAnswers, got, gotKinds, e := record.Play(w, acts)
	if e != api.OK || !slices.Equal(gotAnswers, answers) || !sameWorld(got, want) || !slices.Equal(gotKinds, kinds) {
		t.Fatalf("Play(%v, %v) = %v, %v, %v, %d, want %v, %v, %v", w, acts, gotAnswers, got, gotKinds, e, answers, want, kinds)
	}
	return gotAnswers, got
}

// upTo: from, .. n - 1.
func upTo(from, n int) []int {
	var list []int
	for i := from; i < n; i++ {
		list = append(list, i)
	}
	return list
}

// actsOf: all acts that aren't refused in the world.
func actsOf(w record.World) []record.Act {
	var acts []record.Act
	records, scxs := len(w.Fields), len(w.States)
	for at, fields := range w.Fields {
		for _, kind := range []int{record.Info, record.Marked, record.Mark} {
			acts = append(acts, record.Act{Kind: kind, At: at})
		}
		for field := range fields {
			acts = append(acts, record.Act{Kind: record.Get, At: at, A: field})
			for _, b := range upTo(-1, records) {
				for _, c := range upTo(-1, records) {
					acts = append(acts, record.Act{Kind: record.Swing, At: at, A: field, B: b, C: c})
				}
			}
		}
		for _, b := range upTo(-1, scxs) {
			for _, c := range upTo(0, scxs) {
				acts = append(acts, record.Act{Kind: record.Freeze, At: at, B: b, C: c})
			}
		}
	}
	for at := range scxs {
		for kind := record.State; kind <= record.SetAllFrozen; kind++ {
			acts = append(acts, record.Act{Kind: kind, At: at})
		}
	}
	return acts
}

// someWorld: any world in form of so many records and SCX-records, with at most so many fields of each.
func someWorld(r *rand.Rand, records, scxs, fields int) record.World {
	var w record.World
	for range records {
		mine := make([]int, r.Intn(fields+1))
		for i := range mine {
			mine[i] = r.Intn(records+1) - 1
		}
		w.Fields = append(w.Fields, mine)
		w.Infos = append(w.Infos, r.Intn(scxs+1)-1)
		w.Marks = append(w.Marks, r.Intn(3) == 0)
	}
	for range scxs {
		w.States = append(w.States, r.Intn(3))
		w.Frozen = append(w.Frozen, r.Intn(3) == 0)
	}
	return w
}

// someAct: any act that isn't refused, in a world that has records and SCX-records.
func someAct(r *rand.Rand, w record.World) record.Act {
	records, scxs := len(w.Fields), len(w.States)
	a := record.Act{Kind: 1 + r.Intn(11), At: r.Intn(records)}
	switch {
	case a.Kind >= record.State:
		a.At = r.Intn(scxs)
	case a.Kind == record.Freeze:
		a.B, a.C = r.Intn(scxs+1)-1, r.Intn(scxs)
	case a.Kind > record.Swing:
	case len(w.Fields[a.At]) == 0:
		a.Kind = record.Info
	default:
		a.A = r.Intn(len(w.Fields[a.At]))
		a.B, a.C = r.Intn(records+1)-1, r.Intn(records+1)-1
	}
	if r.Intn(2) == 0 { // else a Cas seldom does something
		switch a.Kind {
		case record.Swing:
			a.B = w.Fields[a.At][a.A]
		case record.Freeze:
			a.B = w.Infos[a.At]
		}
	}
	return a
}

// acts: a list of them.
func acts(list ...record.Act) []record.Act { return list }

// example: the world of the chapter's examples.
func example() record.World {
	return record.World{Fields: [][]int{{1}, {}}, Infos: []int{-1, 0}, Marks: []bool{false, false}, States: []int{0}, Frozen: []bool{false}}
}
