package play

import (
	"slices"

	"larch/api"
	"larch/baton"
	"larch/cell"
	"larch/index"
	"larch/model"
	"larch/table"
)

// MaxWalk is the most picks of a game of which all tables are told.
const MaxWalk = 2000

// Change is a pick behind which the pairs of the tree are others than ahead of it.
type Change struct {
	Pick     int // from 0 on
	Key      int
	Had, Has bool // was the key there ahead of it, and behind it
	Was, Is  int  // its value then; 0 where it wasn't there
}

// Tables: the tree ahead of all picks, and behind each of them.
func Tables(g Game) ([][]api.Node, api.Errno) {
	tables, e := momentsOf(g)
	for k, t := range tables {
		tables[k] = slices.Clone(t) // neighbours may be one and the same list
	}
	return tables, e
}

// Changes: the picks that change the pairs of the tree.
func Changes(g Game) ([]Change, api.Errno) {
	tables, e := momentsOf(g)
	if e != api.OK {
		return nil, e
	}
	var changes []Change
	for pick := range g.Picks {
		if ahead, behind := tables[pick], tables[pick+1]; !slices.Equal(ahead, behind) {
			changes = append(changes, changesBy(pick, ahead, behind)...)
		}
	}
	return changes, api.OK
}

// changesBy: what a pick has changed, by the tables ahead of it and behind it.
func changesBy(pick int, ahead, behind []api.Node) []Change {
	was, _ := table.Pairs(ahead)
	is, _ := table.Pairs(behind)
	keys, _ := model.Differ(was, is)
	changes := make([]Change, len(keys))
	for i, key := range keys {
		c := Change{Pick: pick, Key: key}
		c.Was, c.Had = value(was, key)
		c.Is, c.Has = value(is, key)
		changes[i] = c
	}
	return changes
}

// value: the key's in a map, if it has one.
func value(m []api.Pair, key int) (int, bool) {
	at, there, _ := model.Find(m, key)
	if !there {
		return 0, false
	}
	return m[at].Val, true
}

// momentsOf: the tables of Tables, where neighbours may share memory. The game is played once, and the tree is looked at between the accesses: what can be reached is the same as if the picks had ended there.
func momentsOf(g Game) ([][]api.Node, api.Errno) {
	if e := Check(g); e != api.OK {
		return nil, e
	}
	if len(g.Picks) > MaxWalk {
		return nil, api.ErrBig
	}
	f := &film{tree: index.Of(g.Start)}
	told, _, e := baton.Ops(g.Scripts, g.Picks, func(_ int, gate cell.Gate, op api.Op) api.Ret {
		ret, _ := f.tree.Handle(watched{gate, f}).Do(op)
		return ret
	})
	if e != api.OK {
		return nil, e
	}
	f.look()
	accesses := 0
	tables := [][]api.Node{f.seen[0]}
	for _, s := range told.Steps {
		if s.Kind > api.Start { // a Start is no access, nor is a pick that does nothing
			accesses++
		}
		tables = append(tables, f.seen[accesses])
	}
	return tables, api.OK
}

// film has what the tree was ahead of each access, and behind the last one.
type film struct {
	tree  *index.Map
	seen  [][]api.Node
	still bool // nothing can have changed since it was looked at
}

func (f *film) look() {
	if f.still {
		f.seen = append(f.seen, f.seen[len(f.seen)-1])
	} else {
		f.seen = append(f.seen, f.tree.Table())
	}
}

// watched is a gate at which the tree is looked at ahead of each access.
type watched struct {
	gate cell.Gate
	film *film
}

// Pass looks behind the gate: there the access comes next, and one that ends its thread doesn't come back.
func (w watched) Pass(kind int) {
	w.gate.Pass(kind)
	w.film.look()
	w.film.still = kind == api.Load
}
