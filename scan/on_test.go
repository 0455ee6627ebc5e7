package scan_test

import (
	"math"
	"math/rand"
	"slices"
	"testing"

	"larch/api"
	"larch/cell"
	"larch/model"
	"larch/scan"
	"larch/table"
)

// wantOn: what the model answers of the table's pairs, one operation behind the other.
func wantOn(t *testing.T, list []api.Node, script []api.Op) {
	t.Helper()
	_, want, e := model.Run(pairsIn(t, list), script)
	if e != api.OK {
		t.Fatalf("%s is out of order", keysOf(list))
	}
	rets, e := scan.On(list, script)
	if e != api.OK || !sameRets(rets, want) {
		for i, o := range script {
			if i < len(rets) && !model.SameRet(rets[i], want[i]) {
				t.Fatalf("On(%s, %v) = %v, want %v", keysOf(list), o, rets[i], want[i])
			}
		}
		t.Fatalf("On(%s, %v) = %v, %d, want %v", keysOf(list), script, rets, e, want)
	}
}

func TestOnByExamples(t *testing.T) { // P23.1
	a := below(t, "(7:1 (5:1=50) (7:1=70))")
	five, seven := api.Ret{Ok: true, Key: 5, Val: 50}, api.Ret{Ok: true, Key: 7, Val: 70}
	want := []api.Ret{{Ok: true, Pairs: pairsOf(5, 50, 7, 70)}, {Ok: true}, {Ok: true}, seven, {}, five, five, seven, {Ok: true, Val: 70}}
	rets, e := scan.On(a, ops(rangeOf(0, 9), rangeOf(6, 6), rangeOf(9, 0), after(5), after(7), before(7), least(), greatest(), get(7)))
	if e != api.OK || !sameRets(rets, want) {
		t.Errorf("example 1: %v, %d", rets, e)
	}
	if rets, e := scan.On(table.Empty(), ops(least(), rangeOf(-5, 5))); e != api.OK || !sameRets(rets, []api.Ret{{}, {Ok: true}}) {
		t.Errorf("example 2: %v, %d", rets, e)
	}
	if rets, e := scan.On(a, ops(put(1, 1))); e != api.ErrKind || len(rets) != 0 {
		t.Errorf("example 2: %v, %d", rets, e)
	}
	if rets, e := scan.On(nil, nil); e != api.ErrForm || len(rets) != 0 {
		t.Errorf("example 2: %v, %d", rets, e)
	}
}

// TestOnOfAllSmall: every shape of up to six keys with every key that can part them, and each operation from below the least key to above the greatest.
func TestOnOfAllSmall(t *testing.T) { // P23.1
	wantOn(t, table.Empty(), readOps(-2, 2))
	keys := []int{1, 3, 5, 7, 9, 11}
	for n := 1; n <= len(keys); n++ {
		script := readOps(0, keys[n-1]+1)
		for _, text := range shapes(keys[:n]) {
			wantOn(t, below(t, text), script)
		}
	}
}

// TestOnByChance: any weights, any order of the places.
func TestOnByChance(t *testing.T) { // P23.1
	r := rand.New(rand.NewSource(1))
	for range 2000 {
		leaves := r.Intn(40)
		list := someTable(t, r, leaves)
		script := someOps(r, r.Intn(30), 2*leaves+4, reading...)
		for i := range script {
			script[i].Key -= leaves
			script[i].Hi -= leaves
		}
		wantOn(t, list, script)
	}
}

// TestOnAtTheEnds: keys at the ends of the ints, there or not.
func TestOnAtTheEnds(t *testing.T) { // P23.1
	ends := []int{math.MinInt, math.MinInt + 1, -1, 0, 1, math.MaxInt - 1, math.MaxInt}
	script := ops(least(), greatest())
	for _, key := range ends {
		script = append(script, get(key), after(key), before(key))
		for _, to := range ends {
			script = append(script, rangeOf(key, to))
		}
	}
	for some := range 1 << len(ends) {
		var keys []api.Pair
		for i, key := range ends {
			if some>>i&1 == 1 {
				keys = append(keys, api.Pair{Key: key, Val: i + 1})
			}
		}
		list := planted(keys, func(n int) int { return 1 + some%max(n-1, 1) })
		wantOn(t, list, script)
	}
}

// planted: the table of these pairs; at tells how many of so many pairs go to the left.
func planted(pairs []api.Pair, at func(n int) int) []api.Node {
	list := table.Empty()
	if len(pairs) == 0 {
		return list
	}
	list[1] = api.Node{Inf: 1, Weight: 1, Left: 3, Right: 4}
	list = append(list, api.Node{}, list[2])
	var plant func(place int, pairs []api.Pair)
	plant = func(place int, pairs []api.Pair) {
		if len(pairs) == 1 {
			list[place] = api.Node{Key: pairs[0].Key, Val: pairs[0].Val, Weight: 1, Left: -1, Right: -1}
			return
		}
		n, next := at(len(pairs)), len(list)
		list = append(list, api.Node{}, api.Node{})
		list[place] = api.Node{Key: pairs[n].Key, Weight: 1, Left: next, Right: next + 1}
		plant(next, pairs[:n])
		plant(next+1, pairs[n:])
	}
	plant(3, pairs)
	return list
}

// TestOnOfDeepTables: as many nodes as a table has, most of them below one another.
func TestOnOfDeepTables(t *testing.T) { // P23.1, P23.5
	keys := (api.MaxNodes - 3) / 2
	for name, lean := range map[string]func(level int) bool{
		"to the left":  func(int) bool { return true },
		"to the right": func(int) bool { return false },
		"to and fro":   func(level int) bool { return level%2 == 0 },
	} {
		list := deep(keys, lean)
		half := keys / 2
		script := ops(least(), greatest(), everything(), rangeOf(half, half), rangeOf(half+3, half-3), rangeOf(half-1, half+1), after(-1), after(half), after(keys-1), before(0), before(half), before(keys), get(half), get(keys))
		wantOn(t, list, script)
		for _, o := range script {
			if n, e := scan.Tries(list, o); e != api.OK || n > 40*len(list)+40 || (n < 1) != (o.Kind == api.Range && o.Key > o.Hi) {
				t.Errorf("%s: Tries(%v) = %d, %d", name, o, n, e)
			}
		}
	}
}

func TestOnAtTheLimits(t *testing.T) { // P23.1
	list := below(t, "(7:1 (5:1=50) (7:1=70))")
	wantOn(t, list, slices.Repeat(ops(get(5), least(), rangeOf(0, 9), before(7)), api.MaxOps/4))
	wantOn(t, list, nil)
	heavy := below(t, "(6:1000000 (5:0=50) (7:1000000 (6:0=60) (7:3=70)))")
	wantOn(t, heavy, readOps(4, 8))
}

func TestOnThatIsRefused(t *testing.T) { // P23.1, P23.5
	good, bad, long := below(t, "(7:1 (5:1=50) (7:1=70))"), ops(put(1, 1)), make([]api.Op, api.MaxOps+1)
	mixed := below(t, "(5:1 (5:1=50) (7:1=70))")
	for _, c := range []struct {
		name   string
		list   []api.Node
		script []api.Op
		e      api.Errno
	}{
		{"no nodes", nil, long, api.ErrForm},
		{"too many nodes", make([]api.Node, api.MaxNodes+1), long, api.ErrBig},
		{"not in form", make([]api.Node, 3), long, api.ErrForm},
		{"a leaf", []api.Node{{Key: 5, Weight: 1, Left: -1, Right: -1}}, nil, api.ErrForm},
		{"a sentinel alone", []api.Node{{Inf: 1, Weight: 1, Left: -1, Right: -1}}, nil, api.ErrForm},
		{"no crown", []api.Node{{Key: 5, Weight: 1, Left: 1, Right: 2}, {Key: 1, Weight: 1, Left: -1, Right: -1}, {Key: 5, Weight: 1, Left: -1, Right: -1}}, long, api.ErrForm},
		{"no crown, and not ordered", []api.Node{{Key: 5, Weight: 1, Left: 1, Right: 2}, {Key: 9, Weight: 1, Left: -1, Right: -1}, {Key: 5, Weight: 1, Left: -1, Right: -1}}, bad, api.ErrForm},
		{"a crown of another weight", wholeOf(t, "(inf:2 (inf:1) (inf:1))"), nil, api.ErrForm},
		{"infinity among the keys", wholeOf(t, "(inf:1 (inf:1 (inf:1 (5:1=50) (inf:1)) (inf:1)) (inf:1))"), nil, api.ErrForm},
		{"not ordered", mixed, nil, api.ErrOrder},
		{"not ordered, too many, no kind", mixed, long, api.ErrOrder},
		{"not ordered, and a change", mixed, bad, api.ErrOrder},
		{"too many", good, slices.Repeat(ops(get(1)), api.MaxOps+1), api.ErrBig},
		{"too many, and no kind", good, long, api.ErrBig},
		{"a change", good, bad, api.ErrKind},
		{"a change behind others", good, ops(least(), get(5), del(5)), api.ErrKind},
	} {
		if rets, e := scan.On(c.list, c.script); e != c.e || len(rets) != 0 {
			t.Errorf("%s: On = %v, %d, want %d", c.name, rets, e, c.e)
		}
		if len(c.script) > 1 {
			continue
		}
		o := least()
		if len(c.script) == 1 {
			o = c.script[0]
		}
		if n, e := scan.Tries(c.list, o); e != c.e || n != 0 {
			t.Errorf("%s: Tries = %d, %d, want %d", c.name, n, e, c.e)
		}
	}
	for _, kind := range slices.Concat(noKinds(), changing) {
		o := api.Op{Kind: kind, Key: 5, Val: 1, Hi: 9}
		if rets, e := scan.On(good, ops(least(), o)); e != api.ErrKind || len(rets) != 0 {
			t.Errorf("kind %d: On = %v, %d", kind, rets, e)
		}
		if n, e := scan.Tries(good, o); e != api.ErrKind || n != 0 {
			t.Errorf("kind %d: Tries = %d, %d", kind, n, e)
		}
	}
}

// wholeOf: the table of a whole text.
func wholeOf(t *testing.T, text string) []api.Node {
	t.Helper()
	list, e := table.Read(text)
	if e != api.OK {
		t.Fatalf("%s can't be read", text)
	}
	return list
}

// TestTriesByChance: within their bounds; as many as a Tape notes, and Loads all of them.
func TestTriesByChance(t *testing.T) { // P23.5
	r := rand.New(rand.NewSource(2))
	for range 2000 {
		leaves := r.Intn(30)
		list := someTable(t, r, leaves)
		o := someOps(r, 1, 2*leaves+4, reading...)[0]
		n, e := scan.Tries(list, o)
		if o.Kind == api.Range && o.Key > o.Hi {
			if e != api.OK || n != 0 {
				t.Fatalf("Tries(%s, %v) = %d, %d", keysOf(list), o, n, e)
			}
			continue
		}
		if e != api.OK || n < 1 || n > 40*len(list)+40 {
			t.Fatalf("Tries(%s, %v) = %d, %d", keysOf(list), o, n, e)
		}
		tape := cell.NewTape()
		_, _ = scan.Do(tape, entryOf(t, list), o)
		if kinds := tape.Kinds(); len(kinds) != n || slices.Max(kinds) != api.Load || slices.Min(kinds) != api.Load {
			t.Fatalf("Tries(%s, %v) = %d, the accesses are %v", keysOf(list), o, n, kinds)
		}
	}
}

func TestTriesByExamples(t *testing.T) { // P23.5
	a := below(t, "(7:1 (5:1=50) (7:1=70))")
	if n, e := scan.Tries(a, rangeOf(9, 0)); n != 0 || e != api.OK {
		t.Errorf("example 5: %d, %d", n, e)
	}
	for _, list := range [][]api.Node{table.Empty(), below(t, "(5:1=50)"), a} {
		for _, o := range ops(least(), greatest(), everything(), after(math.MaxInt), before(math.MinInt), after(5), before(5), get(5), rangeOf(math.MaxInt, math.MaxInt), rangeOf(math.MinInt, math.MinInt)) {
			if n, e := scan.Tries(list, o); e != api.OK || n < 1 || n > 40*len(list)+40 {
				t.Errorf("Tries(%s, %v) = %d, %d", keysOf(list), o, n, e)
			}
		}
		for _, o := range ops(rangeOf(math.MaxInt, math.MinInt), rangeOf(1, 0), rangeOf(math.MinInt+1, math.MinInt)) {
			if n, e := scan.Tries(list, o); e != api.OK || n != 0 {
				t.Errorf("Tries(%s, %v) = %d, %d", keysOf(list), o, n, e)
			}
		}
	}
}
