package cell

import (
	"slices"

	"larch/api"
)

// thing is told apart from others by its identity alone. It isn't empty, since Go may put two empty things at one place.
type thing struct {
	same int
}

type thingList []*thing

func makeThings(count int) thingList {
	made := make(thingList, count)
	for i := range made {
		made[i] = new(thing)
	}
	return made
}

// numbered: the thing of that number, or nil for -1.
func (l thingList) numbered(n int) *thing {
	if n < 0 {
		return nil
	}
	return l[n]
}

// number: the number of that very thing, or -1 for nil, which isn't in the list.
func (l thingList) number(p *thing) int {
	return slices.Index(l, p)
}

func (l thingList) do(g Gate, c *Cell[thing], a Act) int {
	switch a.Kind {
	case api.Load:
		return l.number(c.Load(g))
	case api.Store:
		c.Store(g, l.numbered(a.A))
	case api.Swap:
		return l.number(c.Swap(g, l.numbered(a.A)))
	case api.Cas:
		return oneIf(c.Cas(g, l.numbered(a.A), l.numbered(a.B)))
	}
	return 0
}
