package llx

import (
	"slices"

	"larch/api"
	"larch/cell"
	"larch/record"
)

const maxMoments = 3000 // picks of Moments

// Moments: the world's fields, at first and behind each pick.
func Moments(w record.World, scripts [][]Act, picks []int) ([][][]int, api.Errno) {
	if e := refusal(w, scripts, len(picks) > maxMoments); e != api.OK {
		return nil, e
	}
	b := newBoard(w, len(scripts))
	var seen [][][]int // the fields behind so many accesses
	look := func() { seen = append(seen, b.things.Fields()) }
	_, steps := play(scripts, picks, func(thread int, g cell.Gate, a Act) Ans {
		return b.do(thread, watched{gate: g, look: look}, a)
	})
	look()
	return momentsOf(steps, seen), api.OK
}

// watched is a gate at which somebody looks ahead of each access.
type watched struct {
	gate cell.Gate
	look func()
}

// Pass looks behind the gate: one that ends its thread doesn't come back.
func (w watched) Pass(kind int) {
	w.gate.Pass(kind)
	w.look()
}

// momentsOf: a Start, and a pick of nobody, is no access.
func momentsOf(steps []api.Step, seen [][][]int) [][][]int {
	accesses := 0
	moments := [][][]int{cloneRows(seen[0])}
	for _, s := range steps {
		if s.Kind > api.Start {
			accesses++
		}
		moments = append(moments, cloneRows(seen[accesses]))
	}
	return moments
}

func cloneRows(rows [][]int) [][]int {
	copied := make([][]int, len(rows))
	for i, row := range rows {
		copied[i] = slices.Clone(row)
	}
	return copied
}
