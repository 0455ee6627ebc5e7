package chroma_test

import (
	"math"
	"math/rand"
	"slices"
	"testing"

	"larch/api"
	"larch/chroma"
	"larch/seq"
	"larch/steps"
	"larch/table"
)

// wantAlone: as layer 19.
func wantAlone(t *testing.T, start []api.Node, script []api.Op) []api.Node {
	t.Helper()
	want, answers, _, e := seq.Run(start, script)
	if e != api.OK {
		t.Fatalf("layer 19 on %s, %v: %d", keysOf(start), script, e)
	}
	rets, got, e := chroma.Alone(start, script)
	if e != api.OK || !sameRets(rets, answers) || !slices.Equal(got, want) {
		t.Fatalf("Alone(%s, %v) = %v, %s, %d, want %v, %s", keysOf(start), script, rets, keysOf(got), e, answers, keysOf(want))
	}
	return got
}

// wantRepair: as layer 19; the steps that it takes.
func wantRepair(t *testing.T, start []api.Node, key int) []seq.Turn {
	t.Helper()
	want, turns, clean, e := seq.Clean(start, key, seq.MaxTurns)
	if e != api.OK || !clean {
		t.Fatalf("layer 19 on %s, key %d: %v, %d", keysOf(start), key, clean, e)
	}
	if got, e := chroma.Repair(start, key); e != api.OK || !slices.Equal(got, want) {
		t.Fatalf("Repair(%s, %d) = %s, %d, want %s", keysOf(start), key, keysOf(got), e, keysOf(want))
	}
	return turns
}

func TestAloneByExamples(t *testing.T) { // P22.1
	four := ops(put(1, 10), put(2, 20), put(3, 30), put(4, 40), get(2), del(9))
	rets, list, e := chroma.Alone(table.Empty(), four)
	if e != api.OK || !sameRets(rets, []api.Ret{{}, {}, {}, {}, {Ok: true, Val: 20}, {}}) || keysOf(list) != "(3:1 (2:0 (1:1=10) (2:1=20)) (4:0 (3:1=30) (4:1=40)))" {
		t.Errorf("example 1: %v, %s, %d", rets, keysOf(list), e)
	}
	list = wantAlone(t, list, ops(put(5, 50)))
	if keysOf(list) != "(3:1 (2:1 (1:1=10) (2:1=20)) (4:1 (3:1=30) (5:0 (4:1=40) (5:1=50))))" {
		t.Errorf("example 2: %s", keysOf(list))
	}
	list = wantAlone(t, list, ops(del(1)))
	if keysOf(list) != "(4:1 (3:1 (2:1=20) (3:1=30)) (5:1 (4:1=40) (5:1=50)))" {
		t.Errorf("example 2: %s", keysOf(list))
	}
	if got, e := chroma.Repair(below(t, "(2:1 (1:2=0) (2:2=0))"), 1); e != api.OK || keysOf(got) != "(2:1 (1:1=0) (2:1=0))" {
		t.Errorf("example 3: %s, %d", keysOf(got), e)
	}
	if got, e := chroma.Repair(shuffled(rand.New(rand.NewSource(9)), list), 1); e != api.OK || !slices.Equal(got, list) {
		t.Errorf("example 3: %s, %d", keysOf(got), e)
	}
	if kinds, e := chroma.Kinds(table.Empty(), ops(get(5))); e != api.OK || !slices.Equal(kinds, []int{api.Start, api.Load}) {
		t.Errorf("example 4: %v, %d", kinds, e)
	}
	if rets, list, e := chroma.Alone(below(t, "(1:2=10)"), four); e != api.ErrForm || len(rets)+len(list) != 0 {
		t.Errorf("example 4: %v, %v, %d", rets, list, e)
	}
}

// TestRepairOfEachStep: all small trees; each step of layer 19 is seen, on both sides, at the root of the keys and below it.
func TestRepairOfEachStep(t *testing.T) { // P22.1
	seen := map[steps.Move][2]int{}
	for _, size := range []struct{ leaves, sum int }{{1, 1}, {2, 3}, {3, 4}, {4, 4}, {5, 3}, {6, 3}} {
		for _, text := range allBelow(1, size.leaves, size.sum, 1) {
			beside := leafText(size.leaves+1, size.sum)
			for _, list := range [][]api.Node{below(t, text), below(t, innerText(size.leaves+1, 1, text, beside))} {
				for key := 0; key <= size.leaves; key++ {
					for _, turn := range wantRepair(t, list, key) {
						n := seen[turn.Move]
						n[min(1, turn.At-2)]++
						seen[turn.Move] = n
					}
				}
			}
		}
	}
	for _, m := range steps.All() {
		if n := seen[m]; m.Kind != steps.ROOT && (n[0] == 0 || n[1] == 0) {
			t.Errorf("%v was done %d times at the root of the keys, %d times below it: the test sees too little", m, n[0], n[1])
		}
	}
}

func TestRepairByChance(t *testing.T) { // P22.1
	r := rand.New(rand.NewSource(1))
	for range 1500 {
		leaves := r.Intn(40)
		wantRepair(t, shuffled(r, someFit(t, r, leaves)), r.Intn(2*leaves+3)-1)
	}
}

// TestAloneOfAllSmall: each operation on each key of all small trees, with violations as they come.
func TestAloneOfAllSmall(t *testing.T) { // P22.1
	wantAlone(t, table.Empty(), ops(get(1), del(1), ifAbsent(1, 1), ifAbsent(1, 2), put(1, 3), put(1, 3), del(1), del(1)))
	for _, size := range []struct{ leaves, sum int }{{1, 1}, {2, 3}, {3, 3}, {4, 3}, {5, 2}} {
		for _, text := range allBelow(1, size.leaves, size.sum, 1) {
			list := below(t, text)
			for key := 0; key <= size.leaves+1; key++ {
				for _, o := range ops(get(key), put(key, 7), ifAbsent(key, 8), del(key)) {
					wantAlone(t, list, ops(o))
				}
			}
		}
	}
}

func TestAloneByChance(t *testing.T) { // P22.1
	r := rand.New(rand.NewSource(2))
	for range 500 {
		leaves := r.Intn(20)
		wantAlone(t, shuffled(r, someFit(t, r, leaves)), someOps(r, r.Intn(50), 2*leaves+2))
	}
	for _, keys := range []int{1, 3, 10, 100, 1000} {
		wantAlone(t, table.Empty(), someOps(r, api.MaxOps, keys))
	}
}

func TestAloneAtTheEnds(t *testing.T) { // P22.1
	least, most := math.MinInt, math.MaxInt
	for _, key := range []int{least, least + 1, -1, 0, 1, most - 1, most} {
		for _, other := range []int{least, 0, most} {
			script := ops(get(key), put(key, most), ifAbsent(other, least), put(5, 5), put(6, 6), get(key), del(other), ifAbsent(key, 7), put(other, 1), del(key), del(5), del(6), get(other), del(other), del(other))
			wantAlone(t, table.Empty(), script)
		}
	}
}

// wide: a table of so many keys, without a violation.
func wide(t *testing.T, keys int) []api.Node {
	t.Helper()
	list := make([]api.Pair, keys)
	for i := range list {
		list[i] = api.Pair{Key: i, Val: i}
	}
	n, e := seq.Of(list)
	if e != api.OK || len(n) != 2*keys+3 {
		t.Fatalf("%d keys: %d nodes, %d", keys, len(n), e)
	}
	return n
}

const mostKeys = 4998 // their tree has 9999 nodes; one more than 10000, as none has an even number

func TestAloneAtTheLimits(t *testing.T) { // P22.1
	r := rand.New(rand.NewSource(3))
	list := wide(t, mostKeys)
	wantAlone(t, list, someOps(r, api.MaxOps, mostKeys))
	var puts, dels []api.Op
	for i := range api.MaxOps {
		puts, dels = append(puts, put(mostKeys+i, i)), append(dels, del(i))
	}
	wantAlone(t, list, puts)
	wantAlone(t, list, dels)
	wantRepair(t, list, 5)
	heavy := below(t, "(2:1 (1:1000=0) (2:1000=0))")
	wantRepair(t, heavy, 1)
	wantAlone(t, heavy, ops(put(1, 1), get(2), put(3, 3), del(1)))
	wantAlone(t, heavy, ops(del(1), put(5, 5), del(2), del(5)))
	wantRepair(t, below(t, "(5:1 (3:1000 (1:1000=0) (3:1000=0)) (7:1000 (5:1000=0) (7:1000=0)))"), 6)
}

// TestAloneThatIsRefused: Alone, Kinds and Repair, in the order of the errors.
func TestAloneThatIsRefused(t *testing.T) { // P22.1
	small, odd := below(t, "(2:1 (1:1=0) (2:1=0))"), below(t, "(2:1 (1:1=0) (2:2=0))")
	heavy, big := below(t, "(2:1 (1:1001=0) (2:1001=0))"), wide(t, mostKeys+1)
	none, long := ops(get(1), api.Op{Kind: api.Range}), slices.Repeat(ops(get(1)), api.MaxOps+1)
	for _, c := range []struct {
		name   string
		start  []api.Node
		script []api.Op
		e      api.Errno
	}{
		{"many operations", small, long, api.ErrBig},
		{"many operations of no kind, on no tree", nil, slices.Repeat(none, api.MaxOps), api.ErrBig},
		{"no nodes", nil, nil, api.ErrForm},
		{"more nodes than a table has", make([]api.Node, api.MaxNodes+1), none, api.ErrBig},
		{"no crown", small[2:5], nil, api.ErrForm},
		{"uneven", odd, nil, api.ErrForm},
		{"uneven, and no kind", odd, none, api.ErrForm},
		{"a root of the keys that weighs 2", below(t, "(1:2=10)"), nil, api.ErrForm},
		{"a root of the keys that weighs 0", below(t, "(2:0 (1:1=0) (2:1=0))"), nil, api.ErrForm},
		{"keys out of order", below(t, "(2:1 (3:1=0) (2:1=0))"), nil, api.ErrForm},
		{"a leaf that weighs nothing", below(t, "(2:1 (1:0=0) (2:0=0))"), nil, api.ErrForm},
		{"no kind", small, none, api.ErrKind},
		{"too heavy", heavy, nil, api.ErrBig},
		{"too heavy in the midst", below(t, "(3:1 (2:1001 (1:1=0) (2:1=0)) (4:1001 (3:1=0) (4:1=0)))"), nil, api.ErrBig},
		{"too heavy, and no kind", heavy, none, api.ErrKind},
		{"too many nodes", big, nil, api.ErrBig},
		{"too many nodes, and no kind", big, none, api.ErrKind},
	} {
		rets, list, e := chroma.Alone(c.start, c.script)
		kinds, f := chroma.Kinds(c.start, c.script)
		if e != c.e || f != c.e || len(rets)+len(list)+len(kinds) != 0 {
			t.Errorf("%s: Alone = %v, %v, %d; Kinds = %v, %d; want %d", c.name, rets, list, e, kinds, f, c.e)
		}
		if c.script == nil {
			if list, e := chroma.Repair(c.start, 1); e != c.e || len(list) != 0 {
				t.Errorf("%s: Repair = %v, %d, want %d", c.name, list, e, c.e)
			}
		}
	}
	for _, kind := range noKinds() {
		rets, list, e := chroma.Alone(small, ops(api.Op{Kind: kind, Key: 1}))
		kinds, f := chroma.Kinds(small, ops(api.Op{Kind: kind, Key: 1}))
		if e != api.ErrKind || f != api.ErrKind || len(rets)+len(list)+len(kinds) != 0 {
			t.Errorf("kind %d: Alone = %v, %v, %d; Kinds = %v, %d", kind, rets, list, e, kinds, f)
		}
	}
}

// TestKinds: Start ahead of each; what changes nothing loads alone, on a path with violations too.
func TestKinds(t *testing.T) { // P22.1
	for _, text := range []string{"", "(2:1=20)", "(2:1 (1:1=10) (2:1=20))", "(2:1 (1:3=10) (2:3=20))", "(3:1 (2:0 (1:0 (0:1=0) (1:1=10)) (2:1=20)) (3:1=30))"} {
		start := below(t, text)
		pairs, _ := table.Pairs(start)
		for key := -1; key <= 4; key++ {
			there := slices.ContainsFunc(pairs, func(p api.Pair) bool { return p.Key == key })
			for _, o := range ops(get(key), put(key, 2), ifAbsent(key, 7), del(key)) {
				changes := o.Kind == api.Put || o.Kind == api.PutIfAbsent && !there || o.Kind == api.Delete && there
				kinds, e := chroma.Kinds(start, ops(o))
				if e != api.OK || len(kinds) < 2 || kinds[0] != api.Start || kinds[1] != api.Load {
					t.Fatalf("Kinds(%s, %v) = %v, %d", text, o, kinds, e)
				}
				rest := slices.DeleteFunc(slices.Clone(kinds[1:]), func(kind int) bool { return kind == api.Load })
				if changes != slices.Contains(rest, api.Cas) || !changes && len(rest) != 0 || slices.Contains(rest, api.Start) {
					t.Errorf("Kinds(%s, %v) = %v", text, o, kinds)
				}
			}
		}
	}
	kinds, e := chroma.Kinds(table.Empty(), ops(get(5), put(5, 1), ifAbsent(5, 2), del(6), del(5), get(5)))
	starts := 0
	for _, kind := range kinds {
		if kind == api.Start {
			starts++
		}
	}
	if e != api.OK || starts != 6 {
		t.Errorf("six operations: %v, %d", kinds, e)
	}
	if kinds, e := chroma.Kinds(table.Empty(), nil); e != api.OK || len(kinds) != 0 {
		t.Errorf("no operations: %v, %d", kinds, e)
	}
}
