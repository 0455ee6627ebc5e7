package weigh_test

import (
	"math"
	"math/bits"
	"math/rand"
	"slices"
	"testing"

	"larch/api"
	"larch/weigh"
)

func TestSumsByExamples(t *testing.T) { // P17.1
	for _, c := range []struct {
		keys        string
		sums        []int
		sum         int
		even, sound bool
		total, deep int
	}{
		{"", nil, 0, true, true, 0, 1},
		{"(7:1 (5:1=0) (7:1=0))", []int{2, 2}, 2, true, true, 3, 3},
		{"(7:1 (5:0=0) (7:1=0))", []int{1, 2}, 0, false, false, 2, 3},
		{"(7:2 (5:1=0) (7:1=0))", []int{3, 3}, 3, true, false, 4, 3},
		{"(7:0 (5:0=0) (7:3=0))", []int{0, 3}, 0, false, false, 3, 3},
		// a root of the keys that is a leaf
		{"(5:0=1)", []int{0}, 0, true, false, 0, 2},
		{"(5:1=1)", []int{1}, 1, true, true, 1, 2},
		{"(5:2=1)", []int{2}, 2, true, false, 2, 2},
		{"(5:1000000=1)", []int{1000000}, 1000000, true, false, 1000000, 2},
		// the root of the keys weighs too little; a leaf does, though all sums are equal
		{"(7:0 (5:1=0) (7:1=0))", []int{1, 1}, 1, true, false, 2, 3},
		{"(7:1 (5:0=0) (7:0=0))", []int{1, 1}, 1, true, false, 1, 3},
		{"(7:1 (5:2=0) (7:1 (6:1=0) (7:1=0)))", []int{3, 3, 3}, 3, true, true, 6, 4},
		{"(7:1 (5:1=0) (7:1 (6:0=0) (7:0=0)))", []int{2, 2, 2}, 2, true, false, 3, 4},
		{"(7:1 (5:1=0) (7:1 (6:0=0) (7:1=0)))", []int{2, 2, 3}, 0, false, false, 4, 4},
	} {
		n := read(t, c.keys)
		sums, e1 := weigh.Sums(n)
		sum, even, e2 := weigh.Even(n)
		sound, e3 := weigh.Sound(n)
		total, e4 := weigh.Total(n)
		deep, e5 := weigh.Deep(n)
		fits, e6 := weigh.Fits(n)
		if !slices.Equal(sums, c.sums) || sum != c.sum || even != c.even || sound != c.sound || total != c.total || deep != c.deep || !fits || e1|e2|e3|e4|e5|e6 != api.OK {
			t.Errorf("%q: %v, %d %v, %v, %d, %d, %v", c.keys, sums, sum, even, sound, total, deep, fits)
		}
	}
}

// wantSums holds the calls of P17.1 against the words, on the table of a tree, its places numbered by chance.
func wantSums(t *testing.T, r *rand.Rand, x *tree) (even, sound bool) {
	t.Helper()
	n, _ := shuffled(r, x.table())
	want := x.sums(0)
	if got, e := weigh.Sums(n); e != api.OK || !slices.Equal(got, want) {
		t.Fatalf("Sums(%v) = %v, %d, want %v", n, got, e, want)
	}
	sum := 0
	even = len(slices.Compact(slices.Clone(want))) <= 1
	if even && len(want) > 0 {
		sum = want[0]
	}
	if got, is, e := weigh.Even(n); got != sum || is != even || e != api.OK {
		t.Fatalf("Even(%v) = %d, %v, %d, want %d, %v", n, got, is, e, sum, even)
	}
	sound = even && (x == nil || x.weight == 1)
	total := 0
	for _, y := range x.all() {
		sound = sound && !(y.isLeaf() && y.weight < 1)
		total += y.weight
	}
	if got, e := weigh.Sound(n); got != sound || e != api.OK {
		t.Fatalf("Sound(%v) = %v, %d", n, got, e)
	}
	if got, e := weigh.Total(n); got != total || e != api.OK {
		t.Fatalf("Total(%v) = %d, %d, want %d", n, got, e, total)
	}
	return even, sound
}

// TestSumsOfAll: all trees of up to four leaves with weights 0 to 2.
func TestSumsOfAll(t *testing.T) { // P17.1
	r := rand.New(rand.NewSource(1))
	evens, sounds := 0, 0
	for leaves := 1; leaves <= 4; leaves++ {
		for _, x := range shapes(1, leaves) {
			eachWeight(x.all(), 2, func() {
				even, sound := wantSums(t, r, x)
				if even {
					evens++
				}
				if sound {
					sounds++
				}
			})
		}
	}
	if evens < 200 || sounds < 10 || evens == sounds {
		t.Errorf("%d are even, %d sound: the test sees too little", evens, sounds)
	}
}

func TestSumsByChance(t *testing.T) { // P17.1
	r := rand.New(rand.NewSource(2))
	for range 2000 {
		x := someTree(r, -4, r.Intn(14), r.Intn(2) == 0)
		wantSums(t, r, x)
		n, _ := shuffled(r, x.table())
		deep := 1
		if x != nil {
			deep = 2 + x.height()
		}
		if got, e := weigh.Deep(n); got != deep || e != api.OK {
			t.Fatalf("Deep(%v) = %d, %d, want %d", n, got, e, deep)
		}
		if got, e := weigh.Fits(n); got != (deep <= bound(x.leaves())) || e != api.OK {
			t.Fatalf("Fits(%v) = %v, %d", n, got, e)
		}
	}
}

// TestFitsAtTheEdge: so many keys, and every height that so many can have.
func TestFitsAtTheEdge(t *testing.T) { // P17.1
	r := rand.New(rand.NewSource(3))
	yes, no, edges := 0, 0, 0
	for keys := 1; keys <= 40; keys++ {
		for height := bits.Len(uint(keys - 1)); height < keys; height++ {
			x := high(keys, height)
			n, _ := shuffled(r, x.table())
			deep := height + 2
			if got, e := weigh.Deep(n); got != deep || x.leaves() != keys || e != api.OK {
				t.Fatalf("%d keys, %d edges: Deep = %d, %d", x.leaves(), deep, got, e)
			}
			want := deep <= bound(keys)
			if got, e := weigh.Fits(n); got != want || e != api.OK {
				t.Errorf("%d keys, %d edges: Fits = %v, %d", keys, deep, got, e)
			}
			if want {
				yes++
			} else {
				no++
			}
			if want && deep > bound(keys-1) || !want && deep <= bound(keys+1) {
				edges++ // a key less, or a key more, would turn it
			}
		}
	}
	if yes < 100 || no < 100 || edges < 8 {
		t.Errorf("%d fit, %d don't, %d nearly: the test sees too little", yes, no, edges)
	}
}

// high: a tree of so many leaves and that height, if there can be one.
func high(leaves, height int) *tree {
	if leaves == 1 {
		return &tree{key: 1, weight: 1}
	}
	right := min(leaves-height, 1<<(height-1)) // so that as many are left as the height asks for
	return &tree{key: 1, weight: 1, left: high(leaves-right, height-1), right: high(right, bits.Len(uint(right-1)))}
}

func TestBound(t *testing.T) { // P17.1
	for n, want := range map[int]int{0: 6, 1: 8, 2: 8, 3: 10, 6: 10, 7: 12, 8: 12, 14: 12, 15: 14, 99999: 38, math.MaxInt - 1: 130, math.MaxInt: 132, 1<<62 - 2: 128, 1<<62 - 1: 130} {
		if got, e := weigh.Bound(n); got != want || e != api.OK {
			t.Errorf("Bound(%d) = %d, %d, want %d", n, got, e, want)
		}
	}
	for n := range 5000 {
		if got, e := weigh.Bound(n); got != bound(n) || e != api.OK {
			t.Errorf("Bound(%d) = %d, %d, want %d", n, got, e, bound(n))
		}
	}
	for _, n := range []int{-1, -2, math.MinInt, math.MinInt + 1} {
		if got, e := weigh.Bound(n); got != 0 || e != api.ErrArg {
			t.Errorf("Bound(%d) = %d, %d", n, got, e)
		}
	}
}

// TestDeepTrees: as many nodes as a table can have, as deep as can be, each as heavy as can be.
func TestDeepTrees(t *testing.T) { // P17.1, P17.2
	const inners = (api.MaxNodes-2)/2 - 2
	for name, n := range deepTables() {
		if len(n) != api.MaxNodes-1 {
			t.Fatalf("%s has %d nodes", name, len(n))
		}
		if deep, e := weigh.Deep(n); deep != inners+2 || e != api.OK {
			t.Errorf("%s: Deep = %d, %d", name, deep, e)
		}
		if fits, e := weigh.Fits(n); fits || e != api.OK {
			t.Errorf("%s: Fits = %v, %d", name, fits, e)
		}
		for place := range n {
			if n[place].Inf == 0 {
				n[place].Weight = api.MaxWeight
			}
		}
		sums, e := weigh.Sums(n)
		if e != api.OK || len(sums) != inners+1 || slices.Max(sums) != (inners+1)*api.MaxWeight || slices.Min(sums) != 2*api.MaxWeight {
			t.Errorf("%s: %d sums, %d", name, len(sums), e)
		}
		if sum, even, e := weigh.Even(n); sum != 0 || even || e != api.OK {
			t.Errorf("%s: Even = %d, %v, %d", name, sum, even, e)
		}
		if total, e := weigh.Total(n); total != (2*inners+1)*api.MaxWeight || e != api.OK {
			t.Errorf("%s: Total = %d, %d", name, total, e)
		}
		if v, e := weigh.Violations(n); v != (2*inners+1)*(api.MaxWeight-1) || e != api.OK {
			t.Errorf("%s: Violations = %d, %d", name, v, e)
		}
		light, e := weigh.Heavy(n, make([]int, 2*inners+1))
		if reds, e1 := weigh.Reds(light); len(reds) != 2*inners || e|e1 != api.OK || reds[0] != 3 {
			t.Errorf("%s, without weight: %d reds, %d, %d", name, len(reds), e, e1)
		}
	}
}
