package record

import (
	"slices"

	"larch/cell"
)

// The states of an SCX-record.
const (
	InProgress = 0
	Committed  = 1
	Aborted    = 2
)

// Scx is an SCX-record: what one SCX wants, and how far it is.
type Scx[T any] struct {
	V     []*Record[T] // the records that it hangs on
	Infos []*Scx[T]    // what the info of each of them was at its LLX
	Fin   []bool       // which of them it finalizes
	At    int          // V[At] has the field that it changes
	Field int
	Old   *Record[T]
	New   *Record[T]

	state     cell.Num
	allFrozen cell.Mark
}

// NewScx: an SCX-record in progress (which is what a state of zero says).
func NewScx[T any](v []*Record[T], infos []*Scx[T], fin []bool, at, field int, old, p *Record[T]) *Scx[T] {
	return &Scx[T]{V: slices.Clone(v), Infos: slices.Clone(infos), Fin: slices.Clone(fin), At: at, Field: field, Old: old, New: p}
}

// No call may panic: the state and the mark of nil are taken for zero ones that keep nothing.

func (s *Scx[T]) stateCell() *cell.Num {
	if s == nil {
		return nil
	}
	return &s.state
}

func (s *Scx[T]) frozenCell() *cell.Mark {
	if s == nil {
		return nil
	}
	return &s.allFrozen
}

// State: its state. A Load.
func (s *Scx[T]) State(g cell.Gate) int {
	return s.stateCell().Load(g)
}

// Commit: it is Committed. A Store.
func (s *Scx[T]) Commit(g cell.Gate) {
	s.stateCell().Store(g, Committed)
}

// Abort: it is Aborted. A Store.
func (s *Scx[T]) Abort(g cell.Gate) {
	s.stateCell().Store(g, Aborted)
}

// AllFrozen: have all its records been frozen for it? A Load.
func (s *Scx[T]) AllFrozen(g cell.Gate) bool {
	return s.frozenCell().Load(g)
}

// SetAllFrozen: they have. A Store.
func (s *Scx[T]) SetAllFrozen(g cell.Gate) {
	s.frozenCell().Store(g, true)
}
