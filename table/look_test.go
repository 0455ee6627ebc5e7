package table_test

import (
	"math"
	"math/rand"
	"slices"
	"testing"

	"larch/api"
	"larch/model"
	"larch/table"
)

func TestLooksByExamples(t *testing.T) { // P16.2
	odd := exampleOdd()
	leaves, e0 := table.Leaves(odd)
	pairs, e1 := table.Pairs(odd)
	up, e2 := table.Parents(odd)
	path, e3 := table.Search(odd, 9)
	high, e4 := table.Height(odd)
	if e0+e1+e2+e3+e4 != api.OK || !slices.Equal(leaves, []int{3, 4, 1}) || !slices.Equal(pairs, []api.Pair{{Key: 5, Val: 50}}) || !slices.Equal(up, []int{-1, 0, 0, 2, 2}) || !slices.Equal(path, []int{0, 2, 3}) || high != 2 {
		t.Errorf("example 2: %v, %v, %v, %v, %d", leaves, pairs, up, path, high)
	}
	pairs, e0 = table.Pairs(table.Empty())
	high, e1 = table.Height(table.Empty())
	is, e2 := table.Ordered(table.Empty())
	if e0+e1+e2 != api.OK || len(pairs) != 0 || high != 1 || !is {
		t.Errorf("example 1: %v, %d, %v", pairs, high, is)
	}
	for _, c := range []struct {
		tab  []api.Node
		want bool
	}{
		{nodes(i(4, 1, 1, 2), l(4, 1, 0), l(7, 1, 0)), false}, {nodes(i(4, 1, 1, 2), l(1, 1, 0), l(4, 1, 0)), true},
	} {
		if is, err := table.Ordered(c.tab); is != c.want || err != api.OK {
			t.Errorf("example 4: Ordered(%v) = %v, %d", c.tab, is, err)
		}
	}
}

// wantLooks: all looks at a tree, numbered by chance, against those at the pointers.
func wantLooks(t *testing.T, r *rand.Rand, x *tree) bool {
	t.Helper()
	norm := x.table()
	odd, at := shuffled(r, norm)
	all := x.all()
	place := map[*tree]int{}
	for k, n := range all {
		place[n] = at[k]
	}
	var leaves []int
	var pairs []api.Pair
	ups := make([]int, len(all))
	ups[0] = -1
	for _, n := range all {
		if !n.isLeaf() {
			ups[place[n.left]], ups[place[n.right]] = place[n], place[n]
			continue
		}
		leaves = append(leaves, place[n])
		if n.Inf == 0 {
			pairs = append(pairs, api.Pair{Key: n.Key, Val: n.Val})
		}
	}
	gotLeaves, e0 := table.Leaves(odd)
	gotPairs, e1 := table.Pairs(odd)
	gotUps, e2 := table.Parents(odd)
	high, e3 := table.Height(odd)
	is, e4 := table.Ordered(odd)
	if e0+e1+e2+e3+e4 != api.OK || !slices.Equal(gotLeaves, leaves) || !slices.Equal(gotPairs, pairs) || !slices.Equal(gotUps, ups) || high != x.height() || is != x.isOrdered() {
		t.Fatalf("%s: %v, %v, %v, %d, %v", x.text(), gotLeaves, gotPairs, gotUps, high, is)
	}
	for _, key := range append([]int{someNumber(r)}, edges...) {
		var path []int
		for _, n := range x.search(key) {
			path = append(path, place[n])
		}
		if got, err := table.Search(odd, key); err != api.OK || !slices.Equal(got, path) {
			t.Fatalf("%s: Search for %d = %v, %d, want %v", x.text(), key, got, err, path)
		}
	}
	if is && model.Check(gotPairs) != api.OK {
		t.Fatalf("%s is ordered, and its pairs are %v", x.text(), gotPairs)
	}
	return is
}

func TestLooksByChance(t *testing.T) { // P16.2
	r := rand.New(rand.NewSource(4))
	ordered := 0
	for range 5000 {
		if wantLooks(t, r, someTree(r, 1+r.Intn(5))) {
			ordered++
		}
	}
	for range 1000 {
		x := orderedTree(r, -3, 1+r.Intn(12))
		if !wantLooks(t, r, x) || !wantLooks(t, r, crowned(x)) {
			t.Fatalf("%s isn't ordered", x.text())
		}
		n := x.all()[r.Intn(x.size())]
		n.Key += r.Intn(3) - 1
		if wantLooks(t, r, x) {
			ordered++
		}
	}
	if ordered < 1000 {
		t.Errorf("%d are ordered: the test sees too little", ordered)
	}
}

// TestOrderedAtTheEnds: keys at both ends of the numbers; what lies on the right of a sentinel, or left of the least number, nobody finds.
func TestOrderedAtTheEnds(t *testing.T) { // P16.2
	least, most := math.MinInt, math.MaxInt
	r := rand.New(rand.NewSource(5))
	for _, c := range []struct {
		x    *tree
		want bool
	}{
		{leaf(least, 1, 0), true}, {leaf(most, 1, 0), true}, {end(), true},
		{inner(most, 1, leaf(least, 1, 0), leaf(most, 1, 0)), true},
		{inner(least, 1, leaf(least, 1, 0), leaf(most, 1, 0)), false},
		{inner(least, 1, end(), leaf(least, 1, 0)), true},
		{inner(least, 1, inner(least, 1, end(), leaf(least, 1, 0)), leaf(most, 1, 0)), false},
		{inner(most, 1, leaf(most, 1, 0), end()), false},
		{inner(most, 1, leaf(most-1, 1, 0), leaf(most, 1, 0)), true},
		{inner(least+1, 1, leaf(least, 1, 0), leaf(least+1, 1, 0)), true},
		{arch(end(), leaf(most, 1, 0)), false}, {arch(leaf(most, 1, 0), end()), true},
		{arch(end(), arch(leaf(5, 1, 0), end())), false},
		{arch(end(), inner(least, 1, end(), leaf(5, 1, 0))), false},
		{arch(end(), arch(end(), end())), true},
		{inner(4, 1, inner(9, 1, leaf(3, 1, 0), leaf(9, 1, 0)), leaf(10, 1, 0)), false},
		{inner(4, 1, leaf(3, 1, 0), inner(2, 1, leaf(3, 1, 0), leaf(5, 1, 0))), false},
		{inner(4, 1, leaf(3, 1, 0), inner(2, 1, end(), leaf(5, 1, 0))), true},
		{inner(4, 1, leaf(3, 1, 0), leaf(3, 1, 0)), false},
		{inner(4, 1, leaf(4, 1, 0), leaf(4, 1, 0)), false},
	} {
		if got := wantLooks(t, r, c.x); got != c.want {
			t.Errorf("%s: Ordered = %v", c.x.text(), got)
		}
	}
}

// TestLooksOfDeepTrees: as deep as trees can be.
func TestLooksOfDeepTrees(t *testing.T) { // P16.2
	for name, deep := range deepTables(mostInner) {
		leaves, e0 := table.Leaves(deep)
		pairs, e1 := table.Pairs(deep)
		up, e2 := table.Parents(deep)
		high, e3 := table.Height(deep)
		is, e4 := table.Ordered(deep)
		if e0+e1+e2+e3+e4 != api.OK || len(leaves) != 50000 || len(pairs) != 50000 || model.Check(pairs) != api.OK || len(up) != len(deep) || high != 49999 || !is {
			t.Errorf("%s: %d leaves, %d pairs, height %d, ordered %v", name, len(leaves), len(pairs), high, is)
		}
		for k, place := range leaves {
			if deep[place].Key != pairs[k].Key || deep[place].Left != -1 {
				t.Fatalf("%s: leaf %d is %v", name, k, deep[place])
			}
		}
		for _, k := range []int{0, 25000, 49999} {
			if path, err := table.Search(deep, pairs[k].Key); err != api.OK || path[len(path)-1] != leaves[k] || path[0] != 0 {
				t.Errorf("%s: the search for %d ends at %d", name, pairs[k].Key, path[len(path)-1])
			}
		}
		deep[leaves[49999]].Key--
		if is, err := table.Ordered(deep); is || err != api.OK {
			t.Errorf("%s with a wrong leaf is ordered", name)
		}
	}
}
