package weigh_test

import (
	"math"
	"math/rand"
	"slices"
	"testing"

	"larch/api"
	"larch/table"
	"larch/weigh"
)

func TestFaultsByExamples(t *testing.T) { // P17.2
	for _, c := range []struct {
		keys        string
		reds, overs []int
		violations  int
		first       map[int]int
	}{
		{"", nil, nil, 0, map[int]int{5: -1, math.MinInt: -1, math.MaxInt: -1}},
		{"(7:1 (5:1=0) (7:1=0))", nil, nil, 0, map[int]int{5: -1, 7: -1}},
		{"(7:2 (5:1=0) (7:1=0))", nil, []int{2}, 1, map[int]int{5: 2, 9: 2}},
		{"(7:0 (5:0=0) (7:3=0))", []int{3}, []int{4}, 3, map[int]int{5: 3, 6: 3, 7: 4, 9: 4, math.MinInt: 3, math.MaxInt: 4}},
		// the root of the keys is no red-red violation; the crown above it is none either
		{"(5:0=0)", nil, nil, 0, map[int]int{5: -1}},
		{"(5:1=0)", nil, nil, 0, map[int]int{5: -1}},
		{"(5:1000000=0)", nil, []int{2}, 999999, map[int]int{5: 2, 4: 2, 6: 2}},
		{"(7:1 (5:0=0) (7:0=0))", nil, nil, 0, map[int]int{5: -1, 7: -1}},
		// the first one on the path counts, of whichever kind
		{"(7:2 (5:0 (3:0=0) (5:2=0)) (7:0=0))", []int{4}, []int{2, 5}, 3, map[int]int{3: 2, 5: 2, 7: 2}},
		{"(7:1 (5:0 (3:0 (2:5=0) (3:0=0)) (5:2=0)) (7:0=0))", []int{4, 6}, []int{5, 7}, 7, map[int]int{2: 4, 3: 4, 5: 7, 7: -1}},
	} {
		n := read(t, c.keys)
		reds, e1 := weigh.Reds(n)
		overs, e2 := weigh.Overs(n)
		v, e3 := weigh.Violations(n)
		if !slices.Equal(reds, c.reds) || !slices.Equal(overs, c.overs) || v != c.violations || e1|e2|e3 != api.OK {
			t.Errorf("%q: %v, %v, %d", c.keys, reds, overs, v)
		}
		for key, want := range c.first {
			if got, e := weigh.First(n, key); got != want || e != api.OK {
				t.Errorf("First(%q, %d) = %d, %d, want %d", c.keys, key, got, e, want)
			}
		}
	}
}

// wantFaults holds the calls of P17.2 against the words, on the table of a tree, its places numbered by chance.
func wantFaults(t *testing.T, r *rand.Rand, x *tree) {
	t.Helper()
	n, at := shuffled(r, x.table())
	place := map[*tree]int{}
	for i, y := range x.all() {
		place[y] = at[2+i]
	}
	placesOf := func(nodes []*tree) []int {
		var places []int
		for _, y := range nodes {
			places = append(places, place[y])
		}
		return places
	}
	reds, overs := placesOf(x.reds(1)), placesOf(x.overs())
	if got, e := weigh.Reds(n); e != api.OK || !slices.Equal(got, reds) {
		t.Fatalf("Reds(%v) = %v, %d, want %v", n, got, e, reds)
	}
	if got, e := weigh.Overs(n); e != api.OK || !slices.Equal(got, overs) {
		t.Fatalf("Overs(%v) = %v, %d, want %v", n, got, e, overs)
	}
	violations := len(reds)
	for _, p := range overs {
		violations += n[p].Weight - 1
	}
	if got, e := weigh.Violations(n); got != violations || e != api.OK {
		t.Fatalf("Violations(%v) = %d, %d, want %d", n, got, e, violations)
	}
	for key := -6; key < 20; key++ {
		want := -1
		for _, p := range placesOf(x.search(key)) {
			if want == -1 && (slices.Contains(reds, p) || slices.Contains(overs, p)) {
				want = p
			}
		}
		if got, e := weigh.First(n, key); got != want || e != api.OK {
			t.Fatalf("First(%v, %d) = %d, %d, want %d", n, key, got, e, want)
		}
	}
}

// TestFaultsOfAll: all trees of up to three leaves with weights 0 to 3.
func TestFaultsOfAll(t *testing.T) { // P17.2
	r := rand.New(rand.NewSource(4))
	for leaves := 1; leaves <= 3; leaves++ {
		for _, x := range shapes(1, leaves) {
			eachWeight(x.all(), 3, func() { wantFaults(t, r, x) })
		}
	}
}

func TestFaultsByChance(t *testing.T) { // P17.2
	r := rand.New(rand.NewSource(5))
	for range 2000 {
		wantFaults(t, r, someTree(r, -4, r.Intn(14), r.Intn(2) == 0))
	}
}

// TestViolationsAndFirst: of ordered tables, there is no violation just if no key's path has one.
func TestViolationsAndFirst(t *testing.T) { // P17.2
	r := rand.New(rand.NewSource(6))
	clean := 0
	for range 5000 {
		x := someTree(r, -4, r.Intn(7), true)
		for _, y := range x.all() {
			y.weight = []int{0, 1, 1, 1, 1, 1, 1, 1, 2}[r.Intn(9)]
		}
		n, _ := shuffled(r, x.table())
		if ordered, e := table.Ordered(n); !ordered || e != api.OK {
			t.Fatalf("%v isn't ordered", n)
		}
		none := true
		for _, y := range x.all() {
			if first, e := weigh.First(n, y.key); y.isLeaf() && (first != -1 || e != api.OK) {
				none = false
			}
		}
		if v, e := weigh.Violations(n); (v == 0) != none || e != api.OK {
			t.Fatalf("Violations(%v) = %d, %d", n, v, e)
		}
		if none {
			clean++
		}
	}
	if clean < 1000 || clean > 4000 {
		t.Errorf("%d have no violation: the test sees too little", clean)
	}
}
