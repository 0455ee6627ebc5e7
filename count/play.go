package count

import (
	"larch/api"
	"larch/cell"
	"larch/span"
)

// game is what a run of scripts under picks left behind.
type game struct {
	nums  []cell.Num
	hands []*hand
	spans [][]span.Span[out]
	steps []api.Step
}

// play plays scripts that aren't refused.
func play(cells []int, scripts [][]Op, picks []int) game {
	g := game{nums: numsOf(cells), hands: make([]*hand, len(scripts))}
	for thread := range g.hands {
		g.hands[thread] = newHand(g.nums)
	}
	g.spans, g.steps = span.Play(scripts, picks, func(thread int, gate cell.Gate, op Op) out {
		return g.hands[thread].do(gate, op)
	})
	return g
}

// answersOf: the spans as answers.
func answersOf(spans []span.Span[out]) []Ans {
	answers := make([]Ans, len(spans))
	for i, s := range spans {
		answers[i] = Ans{Val: s.Ans.val, Ok: s.Ans.ok, From: s.From, To: s.To}
	}
	return answers
}
