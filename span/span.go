// Package span plays scripts of operations, and notes where each of them began and ended. It is no layer: those whose answers tell the picks of an operation lean on it.
package span

import (
	"larch/api"
	"larch/baton"
	"larch/cell"
)

// None is the To of an operation that is pending.
const None = -1

// nothing is the kind of a pick that did no access.
const nothing = -1

// Span is what an operation answered, and the numbers of the accesses, or picks, in which it began and ended. Of a pending one the answer is zero.
type Span[A any] struct {
	Ans      A
	From, To int
}

// Play: a thread for each script, as the picks say: by thread, the spans of the operations that have begun, counted in picks; and what the picks did. What baton.Run refuses isn't played.
func Play[O, A any](scripts [][]O, picks []int, do func(thread int, g cell.Gate, op O) A) ([][]Span[A], []api.Step) {
	players := make([]Player[A], len(scripts))
	told, _ := baton.Run(len(scripts), picks, func(worker int, g cell.Gate) {
		p := &players[worker]
		p.meter.gate = g
		for _, op := range scripts[worker] {
			p.Do(func(g cell.Gate) A { return do(worker, g, op) })
		}
	})
	places := placesOf(told.Steps, len(scripts))
	spans := make([][]Span[A], len(scripts))
	for thread := range players {
		spans[thread] = players[thread].Spans()
		place(spans[thread], places[thread])
	}
	return spans, told.Steps
}

// placesOf: by thread, the numbers of the picks that did its accesses.
func placesOf(steps []api.Step, threads int) [][]int {
	places := make([][]int, threads)
	for at, s := range steps {
		if s.Kind != nothing {
			places[s.Worker] = append(places[s.Worker], at)
		}
	}
	return places
}

// place turns the numbers of a thread's own accesses to those of their picks.
func place[A any](spans []Span[A], places []int) {
	for i := range spans {
		s := &spans[i]
		s.From = places[s.From]
		if s.To != None {
			s.To = places[s.To]
		}
	}
}
