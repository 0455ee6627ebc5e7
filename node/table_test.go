package node_test

import (
	"math/rand"
	"slices"
	"testing"

	"larch/api"
	"larch/cell"
	"larch/node"
	"larch/table"
)

func TestTablesByExamples(t *testing.T) { // P20.1
	a := exampleA(t)
	if n, kinds, e := node.Round(a); !slices.Equal(n, a) || !slices.Equal(kinds, loads(6)) || e != api.OK {
		t.Errorf("Round(A) = %v, %v, %d", n, kinds, e)
	}
	for key, want := range map[int][]int{5: {0, 1, 2, 3}, 6: {0, 1, 2, 3}, 4: {0, 1, 2, 3}, 7: {0, 1, 2, 4}, 9: {0, 1, 2, 4}} {
		if places, kinds, e := node.Walk(a, key); !slices.Equal(places, want) || !slices.Equal(kinds, loads(3)) || e != api.OK {
			t.Errorf("Walk(A, %d) = %v, %v, %d", key, places, kinds, e)
		}
	}
	if places, kinds, e := node.Walk(table.Empty(), 9); !slices.Equal(places, []int{0, 1}) || !slices.Equal(kinds, loads(1)) || e != api.OK {
		t.Errorf("Walk(Empty, 9) = %v, %v, %d", places, kinds, e)
	}
	wantSeek(t, a, []int{5, 6, 7}, []int{50, 0, 70}, []int{3, 3, 3})
	wantSeek(t, a, []int{4, 8, 7, 7}, []int{0, 0, 70, 70}, []int{3, 3, 3, 3}) // below all, above all, twice
	wantSeek(t, a, nil, nil, nil)
	wantSeek(t, table.Empty(), []int{0, 1}, []int{0, 0}, []int{1, 1})
	one := []api.Node{{Key: 5, Weight: 3, Val: 50, Left: -1, Right: -1}}
	wantSeek(t, one, []int{5, 6}, []int{50, 0}, []int{0, 0})
	if n, kinds, e := node.Round(one); !slices.Equal(n, one) || len(kinds) != 0 || e != api.OK {
		t.Errorf("Round of a leaf = %v, %v, %d", n, kinds, e)
	}
	if places, kinds, e := node.Walk(one, 3); !slices.Equal(places, []int{0}) || len(kinds) != 0 || e != api.OK {
		t.Errorf("Walk in a leaf = %v, %v, %d", places, kinds, e)
	}
}

// wantSeek: no value is 0 here, so 0 is none.
func wantSeek(t *testing.T, n []api.Node, keys, vals, many []int) {
	t.Helper()
	rets, counts, e := node.Seek(n, keys)
	if e != api.OK || len(rets) != len(keys) || !slices.Equal(counts, many) {
		t.Errorf("Seek(%v, %v) = %v, %v, %d", n, keys, rets, counts, e)
		return
	}
	for i, ret := range rets {
		if ret.Val != vals[i] || ret.Ok != (vals[i] != 0) || ret.Key != 0 || len(ret.Pairs) != 0 {
			t.Errorf("Seek(%v, %v) = %v", n, keys, rets)
		}
	}
}

func TestTablesByChance(t *testing.T) { // P20.1, P20.2
	r := rand.New(rand.NewSource(3))
	for range 2000 {
		norm := someTable(r, 1+r.Intn(12))
		n := shuffled(r, norm)
		if got, kinds, e := node.Round(n); !slices.Equal(got, norm) || !slices.Equal(kinds, loads(2*inners(n))) || e != api.OK {
			t.Fatalf("Round(%v) = %v, %v, %d", n, got, kinds, e)
		}
		entry := made(t, n)
		for place, x := range nodesOf(entry) {
			p := norm[place]
			if x.Data != (node.Item{Key: p.Key, Inf: p.Inf, Weight: p.Weight, Val: p.Val, Leaf: p.Left == -1}) || x.Len() != 2*min(1, p.Left+1) {
				t.Fatalf("Make(%v): place %d has %v, %d fields", n, place, x.Data, x.Len())
			}
		}
		wantLoads(t, "Read", 2*inners(n), func(g cell.Gate) {
			if got, e := node.Read(g, entry); !slices.Equal(got, norm) || e != api.OK {
				t.Fatalf("Read = %v, %d, want %v", got, e, norm)
			}
		})
		if got, e := node.Read(nil, entry); !slices.Equal(got, norm) || e != api.OK {
			t.Fatalf("Read = %v, %d, want %v", got, e, norm)
		}
		var keys, many []int
		for range r.Intn(5) {
			key := someNumber(r)
			path, _ := table.Search(norm, key)
			if places, kinds, e := node.Walk(n, key); !slices.Equal(places, path) || !slices.Equal(kinds, loads(len(path)-1)) || e != api.OK {
				t.Fatalf("Walk(%v, %d) = %v, %v, %d", n, key, places, kinds, e)
			}
			keys, many = append(keys, key), append(many, len(path)-1)
		}
		rets, counts, e := node.Seek(n, keys)
		if !slices.Equal(counts, many) || e != api.OK || len(rets) != len(keys) {
			t.Fatalf("Seek(%v, %v) = %v, %v, %d", n, keys, rets, counts, e)
		}
		for i, key := range keys {
			if val, is := node.Get(nil, entry, key); rets[i].Val != val || rets[i].Ok != is || rets[i].Key != 0 || rets[i].Pairs != nil {
				t.Fatalf("Seek(%v, %d) = %v", n, key, rets[i])
			}
		}
	}
}

// watch is a gate that does something whenever it is passed.
type watch struct {
	pass func()
}

func (w watch) Pass(int) { w.pass() }

// TestReadInOrder: at each inner node left, then right, then the left side, then the right one. A gate swings a field just ahead of one access: whether that is seen tells whether the field was loaded already.
func TestReadInOrder(t *testing.T) { // P20.2
	text := "(4:1 (2:1 (1:1=1) (3:1 (2:1=2) (3:1=3))) (6:1 (5:1=5) (6:1=6)))"
	norm := read(t, text)
	rank := map[[2]int]int{} // by place and field: which access is its
	for place, n := range norm {
		if n.Left != -1 {
			rank[[2]int{place, 0}] = len(rank)
			rank[[2]int{place, 1}] = len(rank)
		}
	}
	for field, its := range rank {
		for at := range len(rank) {
			entry := made(t, norm)
			x := nodesOf(entry)[field[0]]
			old := x.Get(nil, field[1])
			passed := 0
			got, e := node.Read(watch{func() {
				if passed == at {
					x.Swing(nil, field[1], old, node.Leaf(99, 0, 1, 99))
				}
				passed++
			}}, entry)
			seen := slices.ContainsFunc(got, func(n api.Node) bool { return n.Key == 99 })
			if e != api.OK || seen != (at <= its) {
				t.Fatalf("place %d, field %d, swung ahead of access %d: seen %v, %d", field[0], field[1], at, seen, e)
			}
		}
	}
}

func TestReadThatIsRefused(t *testing.T) { // P20.2
	l, other := node.Leaf(1, 0, 1, 1), node.Leaf(2, 0, 1, 2)
	in := node.Inner(2, 0, 1, l, other)
	ring := node.Inner(3, 0, 1, nil, node.Leaf(3, 0, 1, 3))
	ring.Swing(nil, 0, nil, node.Inner(2, 0, 1, node.Leaf(1, 0, 1, 1), ring))
	self := node.Inner(3, 0, 1, nil, nil)
	self.Swing(nil, 0, nil, self)
	self.Swing(nil, 1, nil, self)
	for name, c := range map[string]struct {
		n *node.Node
		e api.Errno
	}{
		"nil":                     {nil, api.ErrNil},
		"one child twice":         {node.Inner(1, 0, 1, l, l), api.ErrForm},
		"no left child":           {node.Inner(1, 0, 1, nil, l), api.ErrForm},
		"no right child":          {node.Inner(1, 0, 1, l, nil), api.ErrForm},
		"no children":             {node.Inner(1, 0, 1, nil, nil), api.ErrForm},
		"an inner one twice":      {node.Inner(1, 0, 1, in, in), api.ErrForm},
		"a leaf on both sides":    {node.Inner(3, 0, 1, in, l), api.ErrForm},
		"a leaf of a later side":  {node.Inner(3, 0, 1, other, in), api.ErrForm},
		"a nil child deep down":   {node.Inner(4, 0, 1, node.Inner(2, 0, 1, l, nil), other), api.ErrForm},
		"a nil child at the end":  {node.Inner(4, 0, 1, l, node.Inner(2, 0, 1, other, nil)), api.ErrForm},
		"a ring":                  {ring, api.ErrForm},
		"a node that is its own":  {self, api.ErrForm},
		"a ring below the entry":  {node.Inner(9, 1, 1, ring, l), api.ErrForm},
		"equal ones, made apart":  {node.Inner(1, 0, 1, l, node.Leaf(1, 0, 1, 1)), api.OK},
		"no keys and any weights": {node.Inner(0, 7, -1, node.Leaf(0, 1, -5, 3), other), api.OK},
	} {
		for _, g := range []cell.Gate{nil, cell.NewTape()} {
			if n, e := node.Read(g, c.n); e != c.e || e != api.OK && len(n) != 0 || e == api.OK && len(n) != 3 {
				t.Errorf("%s: Read = %v, %d, want %d", name, n, e, c.e)
			}
		}
	}
	want := []api.Node{{Inf: 7, Weight: -1, Left: 1, Right: 2}, {Inf: 1, Weight: -5, Val: 3, Left: -1, Right: -1}, {Key: 2, Weight: 1, Val: 2, Left: -1, Right: -1}}
	if n, e := node.Read(nil, node.Inner(0, 7, -1, node.Leaf(0, 1, -5, 3), other)); !slices.Equal(n, want) || e != api.OK {
		t.Errorf("contents are answered as they are: %v, %d", n, e)
	}
	wantLoads(t, "Read of no node", 0, func(g cell.Gate) { node.Read(g, nil) })
	late := node.Inner(9, 1, 1, node.Inner(1, 0, 1, nil, nil), in)
	wantLoads(t, "Read that stops", 4, func(g cell.Gate) { node.Read(g, late) })
}

// TestReadOfMany: as many nodes as there may be, and two more; deep, and with a fault behind the last one that counts.
func TestReadOfMany(t *testing.T) { // P20.1, P20.2
	const most = (api.MaxNodes - 2) / 2
	for _, toLeft := range []bool{false, true} {
		n := deepTable(most, toLeft)
		if got, kinds, e := node.Round(n); !slices.Equal(got, n) || len(kinds) != 2*most || e != api.OK || len(n) != api.MaxNodes-1 {
			t.Errorf("Round of %d nodes: %d nodes, %d", len(n), len(got), e)
		}
		entry := made(t, n)
		more := node.Inner(0, 1, 1, entry, node.Leaf(0, 1, 1, 0))
		if got, e := node.Read(nil, more); len(got) != 0 || e != api.ErrBig {
			t.Errorf("Read of two nodes more: %d nodes, %d", len(got), e)
		}
		more = node.Inner(0, 1, 1, node.Leaf(0, 1, 1, 0), entry)
		if got, e := node.Read(nil, more); len(got) != 0 || e != api.ErrBig {
			t.Errorf("Read of two nodes more: %d nodes, %d", len(got), e)
		}
		key, edgesToMost := most, most
		if toLeft {
			key, edgesToMost = 0, 1
		}
		places, kinds, e := node.Walk(n, key)
		path, _ := table.Search(n, key)
		if !slices.Equal(places, path) || len(kinds) != most || e != api.OK {
			t.Errorf("Walk to the end: %d places, %d accesses, %d", len(places), len(kinds), e)
		}
		wantSeek(t, n, []int{most}, []int{most}, []int{edgesToMost})
	}
}

func TestTablesThatAreRefused(t *testing.T) { // P20.1, P20.2
	changed := func(change func(n []api.Node)) []api.Node {
		n := exampleA(t)
		change(n)
		return n
	}
	for name, c := range map[string]struct {
		n []api.Node
		e api.Errno
	}{
		"no nodes":               {nil, api.ErrForm},
		"a node too many":        {make([]api.Node, api.MaxNodes+1), api.ErrBig},
		"many nodes and no tree": {make([]api.Node, api.MaxNodes), api.ErrForm},
		"a child out of range":   {changed(func(n []api.Node) { n[2].Right = 7 }), api.ErrForm},
		"a ring":                 {changed(func(n []api.Node) { n[2].Right = 1 }), api.ErrForm},
		"a weight below 0":       {changed(func(n []api.Node) { n[3].Weight = -1 }), api.ErrForm},
		"a weight too great":     {changed(func(n []api.Node) { n[3].Weight = api.MaxWeight + 1 }), api.ErrForm},
		"an inner node's value":  {changed(func(n []api.Node) { n[2].Val = 1 }), api.ErrForm},
		"Inf 2":                  {changed(func(n []api.Node) { n[0].Inf = 2 }), api.ErrForm},
	} {
		if x, e := node.Make(c.n); x != nil || e != c.e {
			t.Errorf("%s: Make: %d, want %d", name, e, c.e)
		}
		if n, kinds, e := node.Round(c.n); len(n)+len(kinds) != 0 || e != c.e {
			t.Errorf("%s: Round = %v, %v, %d", name, n, kinds, e)
		}
		if places, kinds, e := node.Walk(c.n, 5); len(places)+len(kinds) != 0 || e != c.e {
			t.Errorf("%s: Walk = %v, %v, %d", name, places, kinds, e)
		}
		for _, keys := range [][]int{nil, {5}, make([]int, api.MaxOps+1)} { // the table's error comes first
			if rets, many, e := node.Seek(c.n, keys); len(rets)+len(many) != 0 || e != c.e {
				t.Errorf("%s: Seek = %v, %v, %d", name, rets, many, e)
			}
		}
	}
}

func TestSeekAtMaxOps(t *testing.T) { // P20.1
	keys, vals := make([]int, api.MaxOps), make([]int, api.MaxOps)
	for i := range keys {
		keys[i] = 4 + i%5
		vals[i] = map[int]int{5: 50, 7: 70}[keys[i]]
	}
	wantSeek(t, exampleA(t), keys, vals, slices.Repeat([]int{3}, api.MaxOps))
	if rets, many, e := node.Seek(exampleA(t), append(keys, 5)); len(rets)+len(many) != 0 || e != api.ErrBig {
		t.Errorf("Seek of a key more: %d, %d, %d", len(rets), len(many), e)
	}
}
