package snap

import (
	"slices"

	"larch/api"
)

const maxMoments = 10000 // picks of Moments

// Moments: what the registers held, at first and behind each pick.
func Moments(regs []int, scripts [][]Op, picks []int) ([][]int, api.Errno) {
	if e := refusal(regs, scripts, len(picks) > maxMoments); e != api.OK {
		return nil, e
	}
	changes := changesOf(scripts, run(regs, scripts, picks).Answers, len(picks))
	moments := [][]int{slices.Clone(regs)}
	for pick, c := range changes {
		moment := slices.Clone(moments[pick])
		if c.is {
			moment[c.at] = c.to
		}
		moments = append(moments, moment)
	}
	return moments, api.OK
}

// change is what a pick did to the registers, if it did something.
type change struct {
	is     bool
	at, to int
}

// changesOf: by pick. An operation that changes a register does so in its last access: a pending one hasn't.
func changesOf(scripts [][]Op, answers [][]Ans, picks int) []change {
	changes := make([]change, picks)
	for thread, script := range scripts {
		for i, a := range answers[thread] {
			if a.Ok {
				changes[a.To] = changeOf(script[i])
			}
		}
	}
	return changes
}

// changeOf: what an operation that was told true has changed.
func changeOf(op Op) change {
	switch op.Kind {
	case Write, Trade:
		return change{is: true, at: op.At, to: op.A}
	case Turn:
		return change{is: true, at: op.At, to: op.B}
	}
	return change{}
}

// Between: at which moments of the answer's span the registers held what it says.
func Between(moments [][]int, a Ans) ([]int, api.Errno) {
	last := len(moments) - 1
	if a.From < 0 || a.To < a.From || a.To >= last {
		return nil, api.ErrArg
	}
	var found []int
	for m := a.From + 1; m <= a.To+1; m++ {
		if slices.Equal(moments[m], a.All) {
			found = append(found, m)
		}
	}
	return found, api.OK
}
