package record

import (
	"slices"

	"larch/api"
)

// World is records and SCX-records as plain data, by numbers.
type World struct {
	Fields [][]int // by record: its fields' records; -1: nil
	Infos  []int   // by record: its info; -1: its own first one
	Marks  []bool
	States []int // by SCX-record
	Frozen []bool
}

// none is the number of nil in a field, and of a record's own first info.
const none = -1

// Things are the records and SCX-records of a world: it is told by numbers, they go by identity. The layers above make theirs by it.
type Things struct {
	Records []*Record[int] // Data: its number
	Scxs    []*Scx[int]    // whoever makes more of them puts them behind these
	firsts  []*Scx[int]    // by record: its own first info
}

// Make: those of a world, unless Check refuses it. What the SCX-records want is left open.
func Make(w World) (Things, api.Errno) {
	if e := Check(w); e != api.OK {
		return Things{}, e
	}
	var t Things
	for i, state := range w.States {
		t.Scxs = append(t.Scxs, scxOf(state, w.Frozen[i]))
	}
	for n, fields := range w.Fields {
		r := New(n, make([]*Record[int], len(fields))...)
		t.Records = append(t.Records, r)
		t.firsts = append(t.firsts, r.Info(nil))
	}
	for i, r := range t.Records { // now that all records are there
		for field, n := range w.Fields[i] {
			r.Swing(nil, field, nil, t.Record(n))
		}
		r.Freeze(nil, t.firsts[i], t.Info(i, w.Infos[i]))
		if w.Marks[i] {
			r.Mark(nil)
		}
	}
	return t, api.OK
}

func scxOf(state int, frozen bool) *Scx[int] {
	s := NewScx[int](nil, nil, nil, 0, 0, nil, nil)
	switch state {
	case Committed:
		s.Commit(nil)
	case Aborted:
		s.Abort(nil)
	}
	if frozen {
		s.SetAllFrozen(nil)
	}
	return s
}

// Record: the one of that number, or nil.
func (t Things) Record(n int) *Record[int] {
	if n == none {
		return nil
	}
	return t.Records[n]
}

// Info: the SCX-record of that number, or the record's own first info.
func (t Things) Info(record, n int) *Scx[int] {
	if n == none {
		return t.firsts[record]
	}
	return t.Scxs[n]
}

// Number: that of a record of a world; -1 for nil.
func Number(r *Record[int]) int {
	if r == nil {
		return none
	}
	return r.Data
}

// infoNumber: none for a record's first info.
func (t Things) infoNumber(s *Scx[int]) int { return slices.Index(t.Scxs, s) }

// Fields: what the records' fields hold now.
func (t Things) Fields() [][]int {
	all := make([][]int, len(t.Records))
	for i, r := range t.Records {
		all[i] = make([]int, r.Len())
		for field := range all[i] {
			all[i][field] = Number(r.Get(nil, field))
		}
	}
	return all
}

// World: what they hold now.
func (t Things) World() World {
	w := World{
		Fields: t.Fields(),
		Infos:  make([]int, len(t.Records)),
		Marks:  make([]bool, len(t.Records)),
		States: make([]int, len(t.Scxs)),
		Frozen: make([]bool, len(t.Scxs)),
	}
	for i, r := range t.Records {
		w.Infos[i] = t.infoNumber(r.Info(nil))
		w.Marks[i] = r.Marked(nil)
	}
	for i, s := range t.Scxs {
		w.States[i] = s.State(nil)
		w.Frozen[i] = s.AllFrozen(nil)
	}
	return w
}
