package llx

import (
	"larch/cell"
	"larch/help"
	"larch/record"
)

// unlinked is the code of an act that has no link to one of its records.
const unlinked = -1

// links are those of one thread, by the records' numbers.
type links map[int]Linked[int]

// to: the links to these records, in their order; are they all there?
func (l links) to(records []int) ([]Linked[int], bool) {
	v := make([]Linked[int], len(records))
	for i, n := range records {
		link, is := l[n]
		if !is {
			return nil, false
		}
		v[i] = link
	}
	return v, true
}

func (l links) useUp(records []int) {
	for _, n := range records {
		delete(l, n)
	}
}

// board is a world, and the threads that are at work on it.
type board struct {
	things record.Things
	links  []links // by thread
}

// newBoard: of a world that isn't refused.
func newBoard(w record.World, threads int) *board {
	b := &board{links: make([]links, threads)}
	b.things, _ = record.Make(w)
	for i := range b.links {
		b.links[i] = links{}
	}
	return b
}

func (b *board) do(thread int, g cell.Gate, a Act) Ans {
	mine := b.links[thread]
	if a.Kind == Link {
		return b.link(mine, g, a.At)
	}
	v, is := mine.to(a.V)
	if !is {
		return Ans{Code: unlinked}
	}
	if a.Kind == Check {
		return Ans{Code: check(mine, g, a.V, v)}
	}
	mine.useUp(a.V)
	return Ans{Code: b.swap(g, a, v)}
}

func (b *board) link(mine links, g cell.Gate, at int) Ans {
	l, code := LLX(g, b.things.Records[at])
	if code != Done {
		delete(mine, at)
		return Ans{Code: code}
	}
	mine[at] = l
	fields := make([]int, len(l.Fields))
	for i, r := range l.Fields {
		fields[i] = record.Number(r)
	}
	return Ans{Code: code, Fields: fields}
}

func check(mine links, g cell.Gate, records []int, v []Linked[int]) int {
	if VLX(g, v) {
		return 1
	}
	mine.useUp(records)
	return 0
}

// swap does what SCX does, and keeps the SCX-record, which has its number in the world from its making on.
func (b *board) swap(g cell.Gate, a Act, v []Linked[int]) int {
	s := scxOf(v, a.Fin, a.Pos, a.Field, b.things.Records[a.New])
	b.things.Scxs = append(b.things.Scxs, s)
	if help.Help(g, s) {
		return 1
	}
	return 0
}
