package weigh_test

import (
	"math/rand"
	"testing"

	"larch/api"
	"larch/weigh"
)

// clean: a tree whose sums are s, without a violation; red asks whether the next node is one of weight 0, where it may be.
func clean(s int, below bool, lo *int, red func() bool) *tree {
	isRed := below && red()
	if s == 1 && !isRed {
		*lo++
		return &tree{key: *lo, weight: 1}
	}
	x := &tree{weight: 1}
	if isRed {
		x.weight = 0
	}
	x.left = clean(s-x.weight, !isRed, lo, red)
	x.key = *lo + 1
	x.right = clean(s-x.weight, !isRed, lo, red)
	return x
}

func wantFitting(t *testing.T, r *rand.Rand, s int, x *tree) {
	t.Helper()
	n, _ := shuffled(r, x.table())
	sound, e1 := weigh.Sound(n)
	v, e2 := weigh.Violations(n)
	if !sound || v != 0 || e1|e2 != api.OK {
		t.Fatalf("no sound table without a violation: %v", n)
	}
	sum, even, e1 := weigh.Even(n)
	deep, e2 := weigh.Deep(n)
	fits, e3 := weigh.Fits(n)
	if sum != s || !even || deep > 2*s || !fits || x.leaves() < 1<<(s-1) || e1|e2|e3 != api.OK {
		t.Fatalf("a clean table of the sum %d, with %d leaves, %d deep: Even = %d, %v; Fits = %v", s, x.leaves(), deep, sum, even, fits)
	}
}

func TestCleanTablesFit(t *testing.T) { // P17.4
	r := rand.New(rand.NewSource(8))
	for s := 1; s <= 8; s++ {
		for n := range 60 {
			lo := -20
			wantFitting(t, r, s, clean(s, false, &lo, func() bool { return r.Intn(60) < n }))
		}
	}
}

// TestCleanTablesAtTheEdge: as few leaves as there can be; and as deep a leaf as there can be.
func TestCleanTablesAtTheEdge(t *testing.T) { // P17.4
	r := rand.New(rand.NewSource(9))
	for s := 1; s <= 9; s++ {
		lo := 0
		few := clean(s, false, &lo, func() bool { return false })
		wantFitting(t, r, s, few)
		if few.leaves() != 1<<(s-1) {
			t.Errorf("the sum %d: %d leaves", s, few.leaves())
		}
		lo = 0
		first := true // on the path to the leftmost leaf alone
		deep := clean(s, false, &lo, func() bool { first = first && lo == 0; return first })
		wantFitting(t, r, s, deep)
		if got, e := weigh.Deep(deep.table()); got != 2*s || e != api.OK {
			t.Errorf("the sum %d: Deep = %d, %d", s, got, e)
		}
	}
}
