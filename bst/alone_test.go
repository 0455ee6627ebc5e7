package bst_test

import (
	"math"
	"math/rand"
	"slices"
	"testing"

	"larch/api"
	"larch/bst"
	"larch/table"
)

func TestAloneByExamples(t *testing.T) { // P21.1
	for _, c := range []struct {
		start  []api.Pair
		script []api.Op
		rets   []api.Ret
		tree   string
	}{
		{nil, ops(put(5, 50), get(5), put(5, 51), del(7), del(5)), []api.Ret{{}, {Ok: true, Val: 50}, {Ok: true, Val: 50}, {}, {Ok: true, Val: 51}}, "(inf:1 (inf:1) (inf:1))"},
		{pairsOf(5, 50), ops(put(3, 30)), []api.Ret{{}}, "(inf:1 (inf:1 (5:1 (3:1=30) (5:1=50)) (inf:1)) (inf:1))"},
		{pairsOf(5, 50), ops(put(3, 30), del(5)), []api.Ret{{}, {Ok: true, Val: 50}}, "(inf:1 (inf:1 (3:1=30) (inf:1)) (inf:1))"},
		{pairsOf(1, 1, 2, 2, 3, 3), nil, nil, "(inf:1 (inf:1 (2:1 (1:1=1) (3:1 (2:1=2) (3:1=3))) (inf:1)) (inf:1))"},
		{nil, nil, nil, "(inf:1 (inf:1) (inf:1))"},
		{nil, ops(get(1), del(1)), []api.Ret{{}, {}}, "(inf:1 (inf:1) (inf:1))"},
		{nil, ops(ifAbsent(1, 10), ifAbsent(1, 11)), []api.Ret{{Ok: true}, {Val: 10}}, "(inf:1 (inf:1 (1:1=10) (inf:1)) (inf:1))"},
		{pairsOf(1, 1, 1, 2), ops(put(1, 2)), []api.Ret{{Ok: true, Val: 2}}, "(inf:1 (inf:1 (1:1=2) (inf:1)) (inf:1))"},
		// the sibling is an inner node, on both sides
		{pairsOf(1, 1, 2, 2, 3, 3), ops(del(1)), []api.Ret{{Ok: true, Val: 1}}, "(inf:1 (inf:1 (3:1 (2:1=2) (3:1=3)) (inf:1)) (inf:1))"},
		{pairsOf(3, 3, 2, 2, 1, 1), ops(del(3)), []api.Ret{{Ok: true, Val: 3}}, "(inf:1 (inf:1 (2:1 (1:1=1) (2:1=2)) (inf:1)) (inf:1))"},
		// the sibling is a leaf, on both sides
		{pairsOf(1, 1, 2, 2, 3, 3), ops(del(2)), []api.Ret{{Ok: true, Val: 2}}, "(inf:1 (inf:1 (2:1 (1:1=1) (3:1=3)) (inf:1)) (inf:1))"},
		{pairsOf(1, 1, 2, 2, 3, 3), ops(del(3)), []api.Ret{{Ok: true, Val: 3}}, "(inf:1 (inf:1 (2:1 (1:1=1) (2:1=2)) (inf:1)) (inf:1))"},
	} {
		rets, tree, e := bst.Alone(c.start, c.script)
		text, _ := table.Text(tree)
		if e != api.OK || !sameRets(rets, c.rets) || text != c.tree {
			t.Errorf("Alone(%v, %v) = %v, %s, %d", c.start, c.script, rets, text, e)
		}
		wantAlone(t, c.start, c.script)
	}
}

// TestAloneOfAll: every script of up to four operations on three keys, on trees of all small shapes.
func TestAloneOfAll(t *testing.T) { // P21.1
	var little []api.Op
	for key := 1; key <= 3; key++ {
		little = append(little, get(key), put(key, 10+key), ifAbsent(key, 20+key), del(key))
	}
	for _, start := range [][]api.Pair{nil, pairsOf(2, 20), pairsOf(1, 10, 3, 30), pairsOf(3, 30, 1, 10, 2, 20), pairsOf(0, 0, 4, 4, 2, 20)} {
		for _, a := range little {
			wantAlone(t, start, ops(a))
			for _, b := range little {
				for _, c := range little {
					wantAlone(t, start, ops(a, b, c))
				}
			}
		}
	}
}

func TestAloneByChance(t *testing.T) { // P21.1
	r := rand.New(rand.NewSource(1))
	for range 2000 {
		wantAlone(t, somePairs(r, 9), someOps(r, r.Intn(40)))
	}
}

func TestAloneAtTheEnds(t *testing.T) { // P21.1
	least, most := math.MinInt, math.MaxInt
	for _, key := range []int{least, least + 1, -1, 0, 1, most - 1, most} {
		for _, other := range []int{least, 0, most} {
			for _, start := range [][]api.Pair{nil, pairsOf(least, 1), pairsOf(most, 2), pairsOf(most, 1, 0, 0, least, 2)} {
				wantAlone(t, start, ops(get(key), put(key, most), get(key), ifAbsent(key, least), del(other), ifAbsent(key, 7), put(other, least), del(key), del(key), get(other)))
			}
		}
	}
}

// TestAloneAtTheLimits: as many pairs and operations as there may be, in trees that are as deep as they can be.
func TestAloneAtTheLimits(t *testing.T) { // P21.1
	rise, fall := make([]api.Pair, api.MaxOps), make([]api.Pair, api.MaxOps)
	puts, dels := make([]api.Op, api.MaxOps), make([]api.Op, api.MaxOps)
	for i := range rise {
		rise[i], fall[i] = api.Pair{Key: i, Val: -i}, api.Pair{Key: -i, Val: i}
		puts[i], dels[i] = put(2*i, i), del(i)
	}
	for _, start := range [][]api.Pair{nil, rise, fall} {
		for _, script := range [][]api.Op{nil, puts, dels} {
			wantAlone(t, start, script)
		}
	}
	if left, _ := table.Pairs(mustAlone(t, rise, dels)); len(left) != 0 {
		t.Errorf("%d keys are left", len(left))
	}
}

func mustAlone(t *testing.T, start []api.Pair, script []api.Op) []api.Node {
	t.Helper()
	_, tree, e := bst.Alone(start, script)
	if e != api.OK {
		t.Fatalf("Alone: %d", e)
	}
	return tree
}

func TestAloneThatIsRefused(t *testing.T) { // P21.1, P21.5
	long, bad := make([]api.Pair, api.MaxOps+1), api.Op{Kind: api.Range}
	many := slices.Repeat(ops(get(1)), api.MaxOps+1)
	for _, c := range []struct {
		name   string
		start  []api.Pair
		script []api.Op
		e      api.Errno
	}{
		{"many pairs", long, nil, api.ErrBig},
		{"many operations", nil, many, api.ErrBig},
		{"many pairs, and no kind", long, ops(bad), api.ErrKind},
		{"many operations, the last one of no kind", nil, append(slices.Clone(many), bad), api.ErrKind},
		{"the last one of no kind", pairsOf(1, 1), ops(get(1), put(1, 2), bad), api.ErrKind},
	} {
		rets, tree, e := bst.Alone(c.start, c.script)
		kinds, f := bst.Kinds(c.start, c.script)
		if e != c.e || f != c.e || len(rets)+len(tree)+len(kinds) != 0 {
			t.Errorf("%s: Alone = %v, %v, %d; Kinds = %v, %d; want %d", c.name, rets, tree, e, kinds, f, c.e)
		}
	}
	for _, kind := range noKinds() {
		script := ops(api.Op{Kind: kind, Key: 1})
		rets, tree, e := bst.Alone(pairsOf(1, 1), script)
		kinds, f := bst.Kinds(nil, script)
		if e != api.ErrKind || f != api.ErrKind || len(rets)+len(tree)+len(kinds) != 0 {
			t.Errorf("kind %d: Alone = %v, %v, %d; Kinds = %v, %d", kind, rets, tree, e, kinds, f)
		}
	}
}

// changes: does the operation change the map?
func changes(start []api.Pair, o api.Op) bool {
	there := grown(start, nil).has(o.Key)
	return o.Kind == api.Put || o.Kind == api.PutIfAbsent && !there || o.Kind == api.Delete && there
}

// TestKinds: Start ahead of each; what changes nothing loads alone; what changes something has the Cas of an SCX.
func TestKinds(t *testing.T) { // P21.5
	for _, start := range [][]api.Pair{nil, pairsOf(2, 20), pairsOf(3, 30, 1, 10, 2, 20), pairsOf(math.MinInt, 1, 2, 2, math.MaxInt, 3)} {
		for _, key := range []int{math.MinInt, 0, 1, 2, 3, 4, math.MaxInt} {
			for _, o := range ops(get(key), put(key, 2), ifAbsent(key, 7), del(key)) {
				kinds, e := bst.Kinds(start, ops(o))
				if e != api.OK || len(kinds) < 2 || kinds[0] != api.Start || kinds[1] != api.Load {
					t.Fatalf("Kinds(%v, %v) = %v, %d", start, o, kinds, e)
				}
				rest := slices.DeleteFunc(slices.Clone(kinds[1:]), func(kind int) bool { return kind == api.Load })
				if changes(start, o) != slices.Contains(rest, api.Cas) || !changes(start, o) && len(rest) != 0 || slices.Contains(rest, api.Start) {
					t.Errorf("Kinds(%v, %v) = %v", start, o, kinds)
				}
			}
		}
	}
	kinds, e := bst.Kinds(nil, ops(get(5), put(5, 1), get(5), ifAbsent(5, 2), del(6), del(5), get(5)))
	starts := 0
	for _, kind := range kinds {
		if kind == api.Start {
			starts++
		}
	}
	ends := []int{api.Start, api.Load} // a Get in an empty tree
	if e != api.OK || starts != 7 || !slices.Equal(kinds[:2], ends) || !slices.Equal(kinds[len(kinds)-2:], ends) {
		t.Errorf("seven operations: %v, %d", kinds, e)
	}
	if kinds, e := bst.Kinds(pairsOf(1, 1), nil); e != api.OK || len(kinds) != 0 {
		t.Errorf("no operations: %v, %d", kinds, e)
	}
}
