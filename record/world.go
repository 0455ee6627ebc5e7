package record

import "slices"

// World is records and SCX-records as plain data, by numbers.
type World struct {
	Fields [][]int // by record: its fields' records; -1: nil
	Infos  []int   // by record: its info; -1: its own first one
	Marks  []bool
	States []int // by SCX-record
	Frozen []bool
}

// none is the number of nil in a field, and of a record's own first info.
const none = -1

// blank is the data of a world's records: they differ by identity alone.
type blank struct{}

// things are the records and SCX-records of a world.
type things struct {
	records []*Record[blank]
	firsts  []*Scx[blank] // by record: its own first info
	scxs    []*Scx[blank]
}

// thingsOf: those of a world that is in form.
func thingsOf(w World) things {
	var t things
	for i, state := range w.States {
		t.scxs = append(t.scxs, scxOf(state, w.Frozen[i]))
	}
	for _, fields := range w.Fields {
		r := New(blank{}, make([]*Record[blank], len(fields))...)
		t.records = append(t.records, r)
		t.firsts = append(t.firsts, r.Info(nil))
	}
	for i, r := range t.records { // now that all records are there
		for field, n := range w.Fields[i] {
			r.Swing(nil, field, nil, t.record(n))
		}
		r.Freeze(nil, t.firsts[i], t.info(i, w.Infos[i]))
		if w.Marks[i] {
			r.Mark(nil)
		}
	}
	return t
}

func scxOf(state int, frozen bool) *Scx[blank] {
	s := NewScx[blank](nil, nil, nil, 0, 0, nil, nil)
	switch state {
	case Committed:
		s.Commit(nil)
	case Aborted:
		s.Abort(nil)
	}
	if frozen {
		s.SetAllFrozen(nil)
	}
	return s
}

// record: the one of that number, or nil.
func (t things) record(n int) *Record[blank] {
	if n == none {
		return nil
	}
	return t.records[n]
}

// info: the SCX-record of that number, or the record's own first info.
func (t things) info(record, n int) *Scx[blank] {
	if n == none {
		return t.firsts[record]
	}
	return t.scxs[n]
}

// recordNumber: none for nil.
func (t things) recordNumber(r *Record[blank]) int { return slices.Index(t.records, r) }

// infoNumber: none for a record's first info.
func (t things) infoNumber(s *Scx[blank]) int { return slices.Index(t.scxs, s) }

// world: what they hold now.
func (t things) world() World {
	w := World{
		Fields: make([][]int, len(t.records)),
		Infos:  make([]int, len(t.records)),
		Marks:  make([]bool, len(t.records)),
		States: make([]int, len(t.scxs)),
		Frozen: make([]bool, len(t.scxs)),
	}
	for i, r := range t.records {
		w.Fields[i] = make([]int, r.Len())
		for field := range w.Fields[i] {
			w.Fields[i][field] = t.recordNumber(r.Get(nil, field))
		}
		w.Infos[i] = t.infoNumber(r.Info(nil))
		w.Marks[i] = r.Marked(nil)
	}
	for i, s := range t.scxs {
		w.States[i] = s.State(nil)
		w.Frozen[i] = s.AllFrozen(nil)
	}
	return w
}
