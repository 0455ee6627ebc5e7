package judge_test

import (
	"math"
	"math/big"
	"math/rand"
	"slices"
	"testing"

	"larch/api"
	"larch/judge"
	"larch/seq"
	"larch/table"
	"larch/weigh"
)

// wrongTable is one that is refused, and the error.
type wrongTable struct {
	name string
	list []api.Node
	e    api.Errno
}

// noTables: not in form.
func noTables() []wrongTable {
	leaf := api.Node{Weight: 1, Left: -1, Right: -1}
	return []wrongTable{
		{"no nodes", nil, api.ErrForm},
		{"two leaves", []api.Node{leaf, leaf}, api.ErrForm},
		{"a ring", []api.Node{{Left: 1, Right: 0}, leaf}, api.ErrForm},
		{"a child that isn't there", []api.Node{{Left: 1, Right: 2}, leaf}, api.ErrForm},
		{"Inf 2", []api.Node{{Inf: 2, Left: -1, Right: -1}}, api.ErrForm},
		{"100001 nodes", make([]api.Node, api.MaxNodes+1), api.ErrBig},
	}
}

// noCrowns: in form, and without a crown.
func noCrowns(t *testing.T) [][]api.Node {
	t.Helper()
	return [][]api.Node{read(t, "(4:1=0)"), read(t, "(4:1 (1:1=0) (4:1=0))"), read(t, "(inf:1 (4:1=0) (inf:1))"), read(t, "(inf:2 (inf:1) (inf:1))"), read(t, "(inf:1)")}
}

func TestTablesByExamples(t *testing.T) { // P26.3
	a := treeOf(t, "(1:1=10)")
	if d, e := judge.Moved(table.Empty(), a); e != api.OK || !slices.Equal(d, []judge.Diff{{Key: 1, Has: true, Is: 10}}) {
		t.Errorf("example 5: Moved = %v, %d", d, e)
	}
	if edges, bound, e := judge.Height(table.Empty()); edges != 1 || bound != 6 || e != api.OK {
		t.Errorf("example 5: Height = %d, %d, %d", edges, bound, e)
	}
	if n, e := judge.Violations(a); n != 0 || e != api.OK {
		t.Errorf("example 5: Violations = %d, %d", n, e)
	}
}

func TestViolationsAndHeight(t *testing.T) { // P26.3
	for _, c := range []struct {
		keys                     string
		violations, edges, bound int
	}{
		{"", 0, 1, 6}, {"(1:1=0)", 0, 2, 8}, {"(2:1 (1:1=0) (2:1=0))", 0, 3, 8}, {"(2:1 (1:2=0) (2:2=0))", 2, 3, 8}, {"(2:0 (1:0=0) (2:3=0))", 3, 3, 8}, {"(1:7=0)", 6, 2, 8},
		{"(2:1 (1:1=0) (3:0 (2:1=0) (4:0 (3:1=0) (4:1=0))))", 1, 5, 10}, {"(2:1 (2:1=0) (1:1=0))", 0, 3, 8},
	} {
		list := treeOf(t, c.keys)
		if n, e := judge.Violations(list); n != c.violations || e != api.OK {
			t.Errorf("Violations of %q = %d, %d", c.keys, n, e)
		}
		if edges, bound, e := judge.Height(list); edges != c.edges || bound != c.bound || e != api.OK {
			t.Errorf("Height of %q = %d, %d, %d", c.keys, edges, bound, e)
		}
	}
	r := rand.New(rand.NewSource(12))
	for range 200 {
		g := someGame(r, 4, 5, r.Intn(400))
		_, list := runOf(t, g)
		violations, _ := weigh.Violations(list)
		deep, _ := weigh.Deep(list)
		most, _ := weigh.Bound(len(pairsIn(t, list)))
		n, e1 := judge.Violations(list)
		edges, bound, e2 := judge.Height(list)
		if n != violations || edges != deep || bound != most || e1 != api.OK || e2 != api.OK {
			t.Fatalf("of %v: %d, %d, %d, %d, %d", list, n, edges, bound, e1, e2)
		}
	}
}

func TestTablesThatAreRefused(t *testing.T) { // P26.3
	list := noTables()
	for _, crownless := range noCrowns(t) {
		list = append(list, wrongTable{"no crown", crownless, api.ErrForm})
	}
	for _, c := range list {
		if n, e := judge.Violations(c.list); n != 0 || e != c.e {
			t.Errorf("%s: Violations = %d, %d, want %d", c.name, n, e, c.e)
		}
		if edges, bound, e := judge.Height(c.list); edges != 0 || bound != 0 || e != c.e {
			t.Errorf("%s: Height = %d, %d, %d, want %d", c.name, edges, bound, e, c.e)
		}
	}
}

// movedIn: as the chapter says, key by key.
func movedIn(a, b []api.Pair) []judge.Diff {
	var keys []int
	for _, p := range slices.Concat(a, b) {
		keys = append(keys, p.Key)
	}
	slices.Sort(keys)
	var diffs []judge.Diff
	for _, key := range slices.Compact(keys) {
		d := judge.Diff{Key: key}
		for _, p := range a {
			if p.Key == key {
				d.Had, d.Was = true, p.Val
			}
		}
		for _, p := range b {
			if p.Key == key {
				d.Has, d.Is = true, p.Val
			}
		}
		if d.Had != d.Has || d.Was != d.Is {
			diffs = append(diffs, d)
		}
	}
	return diffs
}

func TestMoved(t *testing.T) { // P26.3
	r := rand.New(rand.NewSource(13))
	none, more := 0, 0
	for range 2000 {
		a, _ := seq.Of(somePairs(r, 6))
		b, _ := seq.Of(somePairs(r, 6))
		if r.Intn(3) == 0 {
			b, _, _, _ = seq.Run(a, ops(put(someKey(r), r.Intn(3))))
		}
		want := movedIn(pairsIn(t, a), pairsIn(t, b))
		if d, e := judge.Moved(a, b); e != api.OK || !slices.Equal(d, want) {
			t.Fatalf("Moved(%v, %v) = %v, %d, want %v", a, b, d, e, want)
		}
		if d, e := judge.Moved(a, a); e != api.OK || len(d) != 0 {
			t.Fatalf("Moved of %v and itself: %v, %d", a, d, e)
		}
		switch {
		case len(want) == 0:
			none++
		case len(want) > 1:
			more++
		}
	}
	if none < 50 || more < 500 {
		t.Errorf("%d that are alike, %d that differ by several keys: the test sees too little", none, more)
	}
	ends := treeOf(t, "(9223372036854775807:1 (-9223372036854775808:1=5) (9223372036854775807:1=0))")
	if d, e := judge.Moved(ends, table.Empty()); e != api.OK || !slices.Equal(d, []judge.Diff{{Key: math.MinInt, Had: true, Was: 5}, {Key: math.MaxInt, Had: true}}) {
		t.Errorf("of the ends: %v, %d", d, e)
	}
}

// TestMovedOfOtherShapes: no crown, other weights, another numbering: the pairs alone count.
func TestMovedOfOtherShapes(t *testing.T) { // P26.3
	a, b := read(t, "(4:7 (1:3=0) (4:9=5))"), treeOf(t, "(4:1 (1:1=0) (4:1=6))")
	turned := []api.Node{{Key: 4, Weight: 1, Left: 2, Right: 1}, {Key: 4, Val: 5, Left: -1, Right: -1}, {Key: 1, Left: -1, Right: -1}}
	if d, e := judge.Moved(a, b); e != api.OK || !slices.Equal(d, []judge.Diff{{Key: 4, Had: true, Has: true, Was: 5, Is: 6}}) {
		t.Errorf("Moved = %v, %d", d, e)
	}
	if d, e := judge.Moved(a, turned); e != api.OK || len(d) != 0 {
		t.Errorf("Moved of another numbering = %v, %d", d, e)
	}
}

// TestMovedErrors: both of the first one ahead of the second one's, and these ahead of ErrOrder.
func TestMovedErrors(t *testing.T) { // P26.3
	fine, twisted := treeOf(t, "(4:1 (1:1=0) (4:1=0))"), treeOf(t, "(4:1 (4:1=0) (1:1=0))")
	big, form := make([]api.Node, api.MaxNodes+1), []api.Node(nil)
	for i, c := range []struct {
		a, b []api.Node
		e    api.Errno
	}{
		{fine, fine, api.OK}, {twisted, fine, api.ErrOrder}, {fine, twisted, api.ErrOrder}, {twisted, twisted, api.ErrOrder},
		{big, form, api.ErrBig}, {form, big, api.ErrForm}, {twisted, big, api.ErrBig}, {twisted, form, api.ErrForm}, {big, twisted, api.ErrBig}, {form, twisted, api.ErrForm}, {fine, big, api.ErrBig}, {fine, form, api.ErrForm},
	} {
		if d, e := judge.Moved(c.a, c.b); e != c.e || len(d) != 0 {
			t.Errorf("row %d: %v, %d, want %d", i, d, e, c.e)
		}
	}
	for _, c := range noTables() {
		if d, e := judge.Moved(c.list, fine); e != c.e || len(d) != 0 {
			t.Errorf("%s: %v, %d, want %d", c.name, d, e, c.e)
		}
	}
}

// soloOf: in numbers that don't wrap.
func soloOf(threads, nodes, weight int) *big.Int {
	m := big.NewInt(int64(nodes + weight + 4*threads + 20))
	n := new(big.Int).Mul(m, big.NewInt(40))
	n.Add(n, big.NewInt(280))
	n.Mul(n, m)
	return n.Mul(n, big.NewInt(int64(threads+2)))
}

func TestSolo(t *testing.T) { // P26.3
	for i, c := range []struct {
		threads, nodes, weight, want int
		e                            api.Errno
	}{
		{1, 3, 3, 133200, api.OK}, {1, 0, 0, 3 * 24 * (960 + 280), api.OK}, {64, 0, 0, 66 * 276 * (40*276 + 280), api.OK},
		{0, 1, 1, 0, api.ErrArg}, {65, 1, 1, 0, api.ErrArg}, {-1, 1, 1, 0, api.ErrArg}, {1, -1, 0, 0, api.ErrArg}, {1, 0, -1, 0, api.ErrArg}, {math.MinInt, 0, 0, 0, api.ErrArg}, {math.MaxInt, 0, 0, 0, api.ErrArg}, {1, math.MinInt, 0, 0, api.ErrArg}, {1, 0, math.MinInt, 0, api.ErrArg},
		{1, 100001, 0, 0, api.ErrBig}, {1, 0, 1000001, 0, api.ErrBig}, {1, math.MaxInt, 0, 0, api.ErrBig}, {1, 0, math.MaxInt, 0, api.ErrBig}, {64, math.MaxInt, math.MaxInt, 0, api.ErrBig},
		{0, 100001, 0, 0, api.ErrArg}, {65, 0, 1000001, 0, api.ErrArg}, {1, 100001, -1, 0, api.ErrArg}, {1, -1, 1000001, 0, api.ErrArg},
	} {
		if n, e := judge.Solo(c.threads, c.nodes, c.weight); n != c.want || e != c.e {
			t.Errorf("row %d: Solo(%d, %d, %d) = %d, %d", i, c.threads, c.nodes, c.weight, n, e)
		}
	}
	for _, threads := range []int{1, 2, 63, 64} {
		for _, nodes := range []int{0, 1, 7, 99999, 100000} {
			for _, weight := range []int{0, 1, 12, 999999, 1000000} {
				if n, e := judge.Solo(threads, nodes, weight); e != api.OK || soloOf(threads, nodes, weight).Cmp(big.NewInt(int64(n))) != 0 {
					t.Errorf("Solo(%d, %d, %d) = %d, %d", threads, nodes, weight, n, e)
				}
			}
		}
	}
}
