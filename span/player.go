package span

import (
	"slices"

	"larch/api"
	"larch/cell"
)

// meter is a gate that counts how often it was passed.
type meter struct {
	gate   cell.Gate // asked first; nil: nobody is
	passed int
}

// Pass counts behind the gate: one that ends its worker doesn't come back.
func (m *meter) Pass(kind int) {
	if m.gate != nil {
		m.gate.Pass(kind)
	}
	m.passed++
}

// Player does operations one behind the other, without a gate if it is the zero Player, and counts its accesses from 0 on.
type Player[A any] struct {
	meter meter
	spans []Span[A]
}

// Do passes the operation's own gate and does it; the accesses have to go through the gate that it is handed.
func (p *Player[A]) Do(op func(g cell.Gate) A) {
	p.meter.Pass(api.Start)
	s := Span[A]{From: p.last(), To: None}
	p.spans = append(p.spans, s) // the gate may end the player within the operation
	s.Ans = op(&p.meter)
	s.To = p.last()
	p.spans[len(p.spans)-1] = s
}

// last: the number of the last access.
func (p *Player[A]) last() int { return p.meter.passed - 1 }

// Spans: those of the operations that have begun, counted in the player's own accesses.
func (p *Player[A]) Spans() []Span[A] { return slices.Clone(p.spans) }
