package cell

import "slices"

// Gate is passed ahead of each access; nil: nobody is asked.
type Gate interface {
	Pass(kind int)
}

func pass(g Gate, kind int) {
	if g != nil {
		g.Pass(kind)
	}
}

// Tape is a gate that lets everybody pass, and notes the kinds.
type Tape struct {
	kinds []int
}

// NewTape: nothing is noted.
func NewTape() *Tape { return new(Tape) }

// Pass notes the kind.
func (t *Tape) Pass(kind int) {
	if t != nil { // a gate may hold a nil *Tape: it isn't the nil interface
		t.kinds = append(t.kinds, kind)
	}
}

// Kinds: what was noted.
func (t *Tape) Kinds() []int {
	if t == nil {
		return nil
	}
	return slices.Clone(t.kinds)
}
