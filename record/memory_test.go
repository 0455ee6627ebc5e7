package record_test

import (
	"fmt"
	"slices"
	"testing"

	"larch/api"
	"larch/record"
)

// roomy: a list with spare room behind it.
func roomy[T any](spare T, list ...T) []T {
	room := append(list, spare, spare, spare)
	return room[:len(list):len(room)]
}

// scribble writes all over a list, spare room included.
func scribble[T any](list []T, with T) {
	for i := range list[:cap(list)] {
		list[:cap(list)][i] = with
	}
}

// roomyWorld: one in form, with spare room in all its lists.
func roomyWorld() record.World {
	row := func(list ...int) []int { return roomy(66, list...) }
	return record.World{Fields: roomy(row(67), row(1, -1, 2), row(), row(0)), Infos: row(-1, 0, 1), Marks: roomy(true, false, true, false), States: row(0, 2), Frozen: roomy(true, false, false)}
}

// picture: all of it, spare room included.
func picture(w record.World, acts []record.Act) string {
	text := fmt.Sprint(w, len(acts), acts[:cap(acts)], w.Infos[:cap(w.Infos)], w.Marks[:cap(w.Marks)], w.States[:cap(w.States)], w.Frozen[:cap(w.Frozen)])
	for _, fields := range w.Fields[:cap(w.Fields)] {
		text += fmt.Sprint(len(fields), fields[:cap(fields)])
	}
	return text
}

// deeds: acts that change everything, with spare room.
func deeds() []record.Act {
	odd := record.Act{Kind: 99, At: 98, A: 97, B: 96, C: 95}
	return roomy(odd, record.Act{Kind: record.Swing, A: 1, B: -1, C: 1}, record.Act{Kind: record.Freeze, B: -1, C: 1}, record.Act{Kind: record.Mark}, record.Act{Kind: record.Commit, At: 1}, record.Act{Kind: record.SetAllFrozen}, record.Act{Kind: record.Get, At: 2})
}

func TestNothingHandedInIsChanged(t *testing.T) { // P12.5
	w, list := roomyWorld(), deeds()
	before := picture(w, list)
	if _, _, _, e := record.Play(w, list); e != api.OK || picture(w, list) != before {
		t.Errorf("Play has changed what it was handed: %d", e)
	}
	if _, _, _, e := record.Play(w, list[:cap(list)]); e != api.ErrKind || picture(w, list) != before {
		t.Errorf("Play that refuses has changed what it was handed: %d", e)
	}
	p, q := record.New(1), record.New(2)
	fields := roomy(q, p, nil)
	r := record.New(3, fields...)
	r.Swing(nil, 0, p, nil)
	r.Swing(nil, 1, nil, p)
	if !slices.Equal(fields[:cap(fields)], []*record.Record[int]{p, nil, q, q, q}) {
		t.Error("New has changed, or kept, what it was handed")
	}
	v, infos, fin := roomy(q, p, r), roomy(q.Info(nil), p.Info(nil), r.Info(nil)), roomy(true, false, true)
	x := record.NewScx(v, infos, fin, 0, 0, p, q)
	scribble(x.V, nil)
	scribble(x.Infos, nil)
	scribble(x.Fin, true)
	if !slices.Equal(v[:cap(v)], []*record.Record[int]{p, r, q, q, q}) || infos[0] != p.Info(nil) || infos[:3][2] != q.Info(nil) || fin[0] {
		t.Error("NewScx has changed, or kept, what it was handed")
	}
}

// TestNothingHandedInIsKept: whoever changes it later changes no record.
func TestNothingHandedInIsKept(t *testing.T) { // P12.4, P12.5
	p, q := record.New(1), record.New(2)
	fields := roomy(q, p, nil)
	r := record.New(3, fields...)
	scribble(fields, q)
	if r.Len() != 2 || r.Get(nil, 0) != p || r.Get(nil, 1) != nil {
		t.Error("New has kept its fields")
	}
	first := p.Info(nil)
	v, infos, fin := roomy(q, p, r), roomy(nil, first, r.Info(nil)), roomy(true, false, true)
	x := record.NewScx(v, infos, fin, 0, 0, p, q)
	scribble(v, nil)
	scribble(infos, nil)
	scribble(fin, true)
	if !slices.Equal(x.V, []*record.Record[int]{p, r}) || !slices.Equal(x.Infos, []*record.Scx[int]{first, r.Info(nil)}) || !slices.Equal(x.Fin, []bool{false, true}) {
		t.Error("NewScx has kept its lists")
	}
}

// TestAnswersAreNewMemory: writing all over the answers changes neither what was handed in nor later answers.
func TestAnswersAreNewMemory(t *testing.T) { // P12.5
	w, list := roomyWorld(), deeds()
	before := picture(w, list)
	answers := func() string {
		got, then, kinds, _ := record.Play(w, list)
		text := fmt.Sprint(got, then, kinds)
		for _, l := range append(then.Fields, got, kinds, then.Infos, then.States) {
			scribble(l, -555)
		}
		scribble(then.Marks, true)
		scribble(then.Frozen, true)
		scribble(then.Fields, nil)
		return text
	}
	want := answers()
	if got := answers(); got != want || picture(w, list) != before {
		t.Errorf("the answers share memory with what was handed in, or with earlier ones: %s, want %s", got, want)
	}
}

// TestAnswersShareNothing: each list is written over with a number of its own; where two share memory, the later one shows in the earlier.
func TestAnswersShareNothing(t *testing.T) { // P12.5
	for _, acts := range [][]record.Act{deeds(), nil} {
		answers, then, kinds, _ := record.Play(roomyWorld(), acts)
		lists := append(slices.Clone(then.Fields), answers, kinds, then.Infos, then.States)
		for i, list := range lists {
			scribble(list, i)
		}
		for i, list := range lists {
			for _, n := range list {
				if n != i {
					t.Errorf("list %d shares memory with list %d", i, n)
				}
			}
		}
		scribble(then.Marks, true)
		if then.Frozen[1] {
			t.Error("Marks and Frozen share memory")
		}
	}
}
