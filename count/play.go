package count

import (
	"larch/api"
	"larch/baton"
	"larch/cell"
)

// game is what a run of scripts under picks left behind.
type game struct {
	nums    []cell.Num
	players []*player
	steps   []api.Step
}

// play plays scripts that aren't refused.
func play(cells []int, scripts [][]Op, picks []int) game {
	g := game{nums: numsOf(cells), players: make([]*player, len(scripts))}
	told, _ := baton.Run(len(scripts), picks, func(worker int, gate cell.Gate) {
		p := newPlayer(g.nums, gate)
		g.players[worker] = p
		for _, op := range scripts[worker] {
			p.play(op)
		}
	})
	g.steps = told.Steps
	return g
}

// meter is a gate that counts how often it was passed.
type meter struct {
	gate   cell.Gate // asked first; nil: nobody is
	passed int
}

// Pass counts behind the gate: one that ends its worker doesn't come back.
func (m *meter) Pass(kind int) {
	if m.gate != nil {
		m.gate.Pass(kind)
	}
	m.passed++
}

// player does operations, each behind its own gate, and notes what they answered, From and To counted in its own accesses.
type player struct {
	hand    hand
	meter   *meter
	answers []Ans
}

func newPlayer(nums []cell.Num, gate cell.Gate) *player {
	m := &meter{gate: gate}
	return &player{hand: hand{nums: nums, gate: m, holds: none}, meter: m}
}

func (p *player) play(op Op) {
	p.meter.Pass(api.Start)
	at, from := len(p.answers), p.meter.passed-1
	p.answers = append(p.answers, Ans{From: from, To: none}) // the gate may end the player within the operation
	val, ok := p.hand.do(op)
	p.answers[at] = Ans{Val: val, Ok: ok, From: from, To: p.meter.passed - 1}
}

// placesOf: by thread, the numbers of the picks that did its accesses.
func placesOf(steps []api.Step, threads int) [][]int {
	places := make([][]int, threads)
	for at, s := range steps {
		if s.Kind != none {
			places[s.Worker] = append(places[s.Worker], at)
		}
	}
	return places
}

// placed: the answers with From and To counted in picks.
func placed(answers []Ans, places []int) []Ans {
	out := make([]Ans, len(answers))
	for i, a := range answers {
		a.From = places[a.From]
		if a.To != none {
			a.To = places[a.To]
		}
		out[i] = a
	}
	return out
}
