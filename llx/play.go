package llx

import (
	"larch/api"
	"larch/cell"
	"larch/record"
	"larch/span"
)

// The kinds of an act.
const (
	Link  = 1 // LLX of record At
	Check = 2 // VLX of V
	Swap  = 3 // SCX
)

// Act is an operation of a thread on a world.
type Act struct {
	Kind       int
	At         int    // of Link: the record
	V          []int  // of Check, Swap: the records
	Fin        []bool // of Swap: which of them are finalized
	Pos, Field int    // of Swap: the field Field of record V[Pos]
	New        int    // of Swap: the record that comes there
}

// Ans is what an act answered, and in which picks it began and ended (To -1: it is pending).
type Ans struct {
	Code     int
	Fields   []int // of Link
	From, To int
}

// Played is what a run came to.
type Played struct {
	Answers [][]Ans
	World   record.World
	Steps   []api.Step
}

// Play: threads do their acts on a world, as the picks say.
func Play(w record.World, scripts [][]Act, picks []int) (Played, api.Errno) {
	if e := refusal(w, scripts, len(picks) > api.MaxPicks); e != api.OK {
		return Played{}, e
	}
	b := newBoard(w, len(scripts))
	answers, steps := play(scripts, picks, b.do)
	return Played{Answers: answers, World: b.things.World(), Steps: steps}, api.OK
}

// play plays scripts that aren't refused; do is how a thread does an act.
func play(scripts [][]Act, picks []int, do func(thread int, g cell.Gate, a Act) Ans) ([][]Ans, []api.Step) {
	spans, steps := span.Play(scripts, picks, do)
	answers := make([][]Ans, len(scripts))
	for thread := range spans {
		answers[thread] = answersOf(spans[thread])
	}
	return answers, steps
}

// answersOf: the spans as answers.
func answersOf(spans []span.Span[Ans]) []Ans {
	answers := make([]Ans, len(spans))
	for i, s := range spans {
		answers[i] = s.Ans
		answers[i].From, answers[i].To = s.From, s.To
	}
	return answers
}
