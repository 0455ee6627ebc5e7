package node_test

import (
	"math"
	"math/rand"
	"slices"
	"testing"

	"larch/api"
	"larch/cell"
	"larch/node"
	"larch/record"
	"larch/table"
)

func TestLeaf(t *testing.T) { // P20.2
	for _, d := range []node.Item{{Key: 4, Weight: 2, Val: 40, Leaf: true}, {Inf: 1, Weight: 1, Leaf: true}, {Key: math.MinInt, Inf: -7, Weight: -1, Val: math.MaxInt, Leaf: true}, {Leaf: true}} {
		n := node.Leaf(d.Key, d.Inf, d.Weight, d.Val)
		if n.Data != d || n.Len() != 0 || n.Marked(nil) || n.Info(nil).State(nil) != record.Aborted {
			t.Errorf("Leaf = %v, %d fields, want %v", n.Data, n.Len(), d)
		}
		wantLoads(t, "Left, Right of a leaf", 0, func(g cell.Gate) {
			if node.Left(g, n) != nil || node.Right(g, n) != nil {
				t.Error("a leaf has children")
			}
		})
	}
	if node.Leaf(1, 0, 1, 1) == node.Leaf(1, 0, 1, 1) {
		t.Error("two leaves are one")
	}
}

func TestInner(t *testing.T) { // P20.2
	l, r := node.Leaf(4, 0, 1, 40), node.Leaf(7, 0, 1, 70)
	for _, d := range []node.Item{{Key: 7, Weight: 3}, {Inf: 1, Weight: 1}, {Key: math.MaxInt, Inf: 9, Weight: -4}} {
		for _, sides := range [][2]*node.Node{{l, r}, {r, l}, {l, l}, {nil, r}, {l, nil}, {nil, nil}} {
			n := node.Inner(d.Key, d.Inf, d.Weight, sides[0], sides[1])
			if n.Data != d || n.Len() != 2 || n.Get(nil, 0) != sides[0] || n.Get(nil, 1) != sides[1] || n.Marked(nil) || n.Info(nil).State(nil) != record.Aborted {
				t.Errorf("Inner = %v, %d fields, want %v", n.Data, n.Len(), d)
			}
			wantLoads(t, "Left", 1, func(g cell.Gate) {
				if node.Left(g, n) != sides[0] || node.Left(nil, n) != sides[0] {
					t.Error("Left is another one")
				}
			})
			wantLoads(t, "Right", 1, func(g cell.Gate) {
				if node.Right(g, n) != sides[1] || node.Right(nil, n) != sides[1] {
					t.Error("Right is another one")
				}
			})
		}
	}
}

func TestEntry(t *testing.T) { // P20.2
	e := node.Entry()
	l, r := node.Left(nil, e), node.Right(nil, e)
	end := node.Item{Inf: 1, Weight: 1, Leaf: true}
	if e.Data != (node.Item{Inf: 1, Weight: 1}) || l == nil || r == nil || l == r || l.Data != end || r.Data != end {
		t.Errorf("Entry() = %v over %v, %v", e.Data, l.Data, r.Data)
	}
	if n, err := node.Read(nil, e); !slices.Equal(n, table.Empty()) || err != api.OK {
		t.Errorf("Read of Entry() = %v, %d", n, err)
	}
	other := node.Entry()
	if other == e || node.Left(nil, other) == l || node.Right(nil, other) == r {
		t.Error("two entries have nodes in common")
	}
}

func TestBelow(t *testing.T) { // P20.2
	for _, key := range numbers {
		for _, own := range numbers {
			for _, n := range []*node.Node{node.Leaf(own, 0, 1, 5), node.Inner(own, 0, 1, nil, nil), node.Leaf(own, 2, 1, 5)} {
				if got := node.Below(key, n); got != (key < own) {
					t.Errorf("Below(%d, %v) = %v", key, n.Data, got)
				}
			}
			if !node.Below(key, node.Leaf(own, 1, 1, 5)) || !node.Below(key, node.Inner(0, 1, 1, nil, nil)) {
				t.Errorf("%d isn't below a sentinel", key)
			}
		}
	}
}

// wantSearch holds Path, Find and Get against the search of layer 16 in the table; nodes are the tree's, by their places.
func wantSearch(t *testing.T, n []api.Node, nodes []*node.Node, key int) {
	t.Helper()
	places, _ := table.Search(n, key)
	var path []*node.Node
	for _, place := range places {
		path = append(path, nodes[place])
	}
	last := [3]*node.Node{}
	for i := range min(3, len(path)) {
		last[i] = path[len(path)-1-i]
	}
	end := n[places[len(places)-1]]
	there := end.Inf == 0 && end.Key == key
	val := 0
	if there {
		val = end.Val
	}
	check := func(g cell.Gate) {
		if got := node.Path(g, nodes[0], key); !slices.Equal(got, path) {
			t.Fatalf("Path(%v, %d) has %d nodes, want %v", n, key, len(got), places)
		}
	}
	wantLoads(t, "Path", len(path)-1, check)
	check(nil)
	check = func(g cell.Gate) {
		leaf, parent, grand := node.Find(g, nodes[0], key)
		if [3]*node.Node{leaf, parent, grand} != last {
			t.Fatalf("Find(%v, %d) is another one", n, key)
		}
	}
	wantLoads(t, "Find", len(path)-1, check)
	check(nil)
	check = func(g cell.Gate) {
		if got, is := node.Get(g, nodes[0], key); got != val || is != there {
			t.Fatalf("Get(%v, %d) = %d, %v, want %d, %v", n, key, got, is, val, there)
		}
	}
	wantLoads(t, "Get", len(path)-1, check)
	check(nil)
}

// nodesOf: the nodes by their places in the table numbered from the root on.
func nodesOf(n *node.Node) []*node.Node {
	if n == nil {
		return nil
	}
	return append(append([]*node.Node{n}, nodesOf(node.Left(nil, n))...), nodesOf(node.Right(nil, n))...)
}

func TestSearchByExamples(t *testing.T) { // P20.2
	entry := made(t, exampleA(t))
	leaf, parent, grand := node.Find(nil, entry, 5)
	if leaf.Data != (node.Item{Key: 5, Weight: 1, Val: 50, Leaf: true}) || parent.Data != (node.Item{Key: 7, Weight: 1}) || grand != node.Left(nil, entry) {
		t.Errorf("Find = %v, %v, %v", leaf.Data, parent.Data, grand.Data)
	}
	entry = node.Entry()
	leaf, parent, grand = node.Find(nil, entry, 5)
	if leaf != node.Left(nil, entry) || parent != entry || grand != nil {
		t.Error("Find in an empty map is another one")
	}
	for _, key := range []int{0, 5, math.MaxInt} { // a sentinel's Key is 0
		if val, is := node.Get(nil, entry, key); val != 0 || is {
			t.Errorf("Get(%d) in an empty map = %d, %v", key, val, is)
		}
	}
	lone := node.Leaf(5, 0, 1, 50)
	if leaf, parent, grand := node.Find(nil, lone, 9); leaf != lone || parent != nil || grand != nil {
		t.Error("Find in a leaf is another one")
	}
	if path := node.Path(nil, lone, 9); !slices.Equal(path, []*node.Node{lone}) {
		t.Errorf("Path in a leaf has %d nodes", len(path))
	}
	for key, want := range map[int]int{5: 50, 4: 0, 6: 0} {
		if val, is := node.Get(nil, lone, key); val != want || is != (key == 5) {
			t.Errorf("Get(%d) in a leaf = %d, %v", key, val, is)
		}
	}
}

func TestSearchByChance(t *testing.T) { // P20.2
	r := rand.New(rand.NewSource(1))
	for range 2000 {
		n := someTable(r, 1+r.Intn(12))
		nodes := nodesOf(made(t, shuffled(r, n)))
		for range 4 {
			wantSearch(t, n, nodes, someNumber(r))
		}
	}
}

// TestGetOfOrdered: each pair's key has its value, every other one nothing.
func TestGetOfOrdered(t *testing.T) { // P20.4
	r := rand.New(rand.NewSource(2))
	for range 1000 {
		leaves := r.Intn(12)
		n := orderedTable(r, -4, leaves)
		if ordered, e := table.Ordered(n); !ordered || e != api.OK {
			t.Fatalf("%v isn't ordered", n)
		}
		pairs, _ := table.Pairs(n)
		values := map[int]int{}
		for _, p := range pairs {
			values[p.Key] = p.Val
		}
		entry := made(t, shuffled(r, n))
		var keys []int
		for key := -6; key < 2*leaves; key++ {
			keys = append(keys, key)
		}
		keys = append(keys, math.MinInt, math.MaxInt)
		rets, _, _ := node.Seek(n, keys)
		for i, key := range keys {
			want, there := values[key]
			if val, is := node.Get(nil, entry, key); val != want || is != there {
				t.Fatalf("Get(%v, %d) = %d, %v", n, key, val, is)
			}
			if rets[i].Val != want || rets[i].Ok != there {
				t.Fatalf("Seek(%v, %d) = %v", n, key, rets[i])
			}
		}
	}
	ends := read(t, "(0:1 (-9223372036854775808:1=1) (9223372036854775807:1=2))")
	rets, _, _ := node.Seek(ends, []int{math.MinInt, math.MaxInt, math.MinInt + 1, math.MaxInt - 1, 0})
	for i, want := range []int{1, 2, 0, 0, 0} {
		if rets[i].Val != want || rets[i].Ok != (want != 0) {
			t.Errorf("Seek at the ends = %v", rets)
		}
	}
}

// TestChangedFields: what is swung is seen by all.
func TestChangedFields(t *testing.T) { // P20.3
	entry := node.Entry()
	old := node.Left(nil, entry)
	arch := node.Left(nil, made(t, exampleA(t)))
	if entry.Swing(nil, 0, node.Leaf(0, 1, 1, 0), arch) {
		t.Fatal("an equal leaf is that one")
	}
	if !entry.Swing(nil, 0, old, arch) {
		t.Fatal("Swing")
	}
	if n, e := node.Read(nil, entry); !slices.Equal(n, exampleA(t)) || e != api.OK {
		t.Errorf("Read behind Swing = %v, %d", n, e)
	}
	for key, want := range map[int]int{5: 50, 7: 70, 6: 0} {
		if val, is := node.Get(nil, entry, key); val != want || is != (want != 0) {
			t.Errorf("Get(%d) behind Swing = %d, %v", key, val, is)
		}
	}
	nodes := nodesOf(entry)
	for key := 4; key < 9; key++ {
		wantSearch(t, exampleA(t), nodes, key)
	}
	keys := node.Left(nil, arch)
	if !keys.Swing(nil, 1, node.Right(nil, keys), node.Leaf(8, 0, 2, 80)) {
		t.Fatal("Swing")
	}
	want := read(t, "(7:1 (5:1=50) (8:2=80))")
	if n, e := node.Read(nil, entry); !slices.Equal(n, want) || e != api.OK {
		t.Errorf("Read behind a second Swing = %v, %d", n, e)
	}
	nodes = nodesOf(entry)
	for key := 4; key < 10; key++ {
		wantSearch(t, want, nodes, key)
	}
	if !entry.Swing(nil, 0, arch, old) {
		t.Fatal("Swing")
	}
	if n, e := node.Read(nil, entry); !slices.Equal(n, table.Empty()) || e != api.OK {
		t.Errorf("Read behind the last Swing = %v, %d", n, e)
	}
}

// TestOddNodes: no call panics, and each ends, whatever it is given.
func TestOddNodes(t *testing.T) { // P20.2
	if node.Left(nil, nil) != nil || node.Right(nil, nil) != nil || node.Below(5, nil) || len(node.Path(nil, nil, 5)) != 0 {
		t.Error("no node has something")
	}
	leaf, parent, grand := node.Find(nil, nil, 5)
	if val, is := node.Get(nil, nil, 5); leaf != nil || parent != nil || grand != nil || val != 0 || is {
		t.Error("no node finds something")
	}
	hole := node.Inner(5, 0, 1, nil, nil)
	for _, key := range []int{4, 5} {
		path := node.Path(nil, hole, key)
		leaf, parent, _ := node.Find(nil, hole, key)
		val, is := node.Get(nil, hole, key)
		if !slices.Equal(path, []*node.Node{hole}) || leaf != hole || parent != nil || val != 0 || is {
			t.Errorf("a search for %d that ends at a nil child: %d nodes, %d, %v", key, len(path), val, is)
		}
	}
	for _, size := range []int{1, 2, 3, 8, 100} { // rings of so many inner nodes
		ring := []*node.Node{node.Inner(5, 0, 1, nil, nil)}
		for len(ring) < size {
			ring = append(ring, node.Inner(5, 0, 1, ring[len(ring)-1], nil))
		}
		ring[0].Swing(nil, 0, nil, ring[size-1])
		starts := slices.Clone(ring)
		for range 20 { // and ways into the ring
			starts = append(starts, node.Inner(5, 0, 1, starts[len(starts)-1], nil))
		}
		for _, start := range starts {
			if path := node.Path(nil, start, 4); len(path) < size || path[0] != start {
				t.Errorf("Path in a ring of %d: %d nodes", size, len(path))
			}
			if val, is := node.Get(nil, start, 4); val != 0 || is {
				t.Errorf("Get in a ring of %d: %d, %v", size, val, is)
			}
		}
	}
	bare := new(node.Node) // an inner one without fields
	if _, e := node.Read(nil, bare); e != api.ErrForm || node.Left(nil, bare) != nil || len(node.Path(nil, bare, 0)) != 1 {
		t.Errorf("Read of a zero node: %d", e)
	}
}

// TestLongPaths: no path is taken for a ring.
func TestLongPaths(t *testing.T) { // P20.2
	const edges = 3 * api.MaxNodes
	n := node.Leaf(0, 0, 1, 9)
	for i := range edges {
		n = node.Inner(i+1, 0, 1, n, node.Leaf(i+1, 0, 1, i))
	}
	wantLoads(t, "Path", edges, func(g cell.Gate) {
		if path := node.Path(g, n, 0); len(path) != edges+1 {
			t.Errorf("a path of %d nodes", len(path))
		}
	})
	if val, is := node.Get(nil, n, 0); val != 9 || !is {
		t.Errorf("Get at the end of it = %d, %v", val, is)
	}
}
