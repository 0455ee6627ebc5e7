package record

import (
	"larch/api"
	"larch/cell"
)

// The kinds of an act.
const (
	Get          = 1  // record At, field A
	Swing        = 2  // record At, field A, from record B to record C
	Info         = 3  // record At
	Freeze       = 4  // record At, from SCX-record B to SCX-record C
	Marked       = 5  // record At
	Mark         = 6  // record At
	State        = 7  // SCX-record At
	Commit       = 8  // SCX-record At
	Abort        = 9  // SCX-record At
	AllFrozen    = 10 // SCX-record At
	SetAllFrozen = 11 // SCX-record At
)

// Act is an access as plain data.
type Act struct {
	Kind, At, A, B, C int
}

// Play: the acts one behind the other: the answers, the world behind them, the kinds of the accesses.
func Play(w World, acts []Act) ([]int, World, []int, api.Errno) {
	if e := refusal(w, acts); e != api.OK {
		return nil, World{}, nil, e
	}
	t, _ := Make(w)
	tape := cell.NewTape()
	answers := make([]int, len(acts))
	for i, a := range acts {
		if a.Kind < State {
			answers[i] = t.doRecord(tape, t.Records[a.At], a)
		} else {
			answers[i] = doScx(tape, t.Scxs[a.At], a.Kind)
		}
	}
	return answers, t.World(), tape.Kinds(), api.OK
}

// doRecord: an act on a record.
func (t Things) doRecord(g cell.Gate, r *Record[int], a Act) int {
	switch a.Kind {
	case Get:
		return Number(r.Get(g, a.A))
	case Swing:
		return oneIf(r.Swing(g, a.A, t.Record(a.B), t.Record(a.C)))
	case Info:
		return t.infoNumber(r.Info(g))
	case Freeze:
		return oneIf(r.Freeze(g, t.Info(a.At, a.B), t.Scxs[a.C]))
	case Marked:
		return oneIf(r.Marked(g))
	case Mark:
		r.Mark(g)
	}
	return 0
}

// doScx: an act on an SCX-record.
func doScx(g cell.Gate, s *Scx[int], kind int) int {
	switch kind {
	case State:
		return s.State(g)
	case Commit:
		s.Commit(g)
	case Abort:
		s.Abort(g)
	case AllFrozen:
		return oneIf(s.AllFrozen(g))
	case SetAllFrozen:
		s.SetAllFrozen(g)
	}
	return 0
}

func oneIf(b bool) int {
	if b {
		return 1
	}
	return 0
}
