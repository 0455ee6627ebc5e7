package seq_test

import (
	"math"
	"math/rand"
	"testing"

	"larch/api"
	"larch/seq"
	"larch/steps"
	"larch/table"
)

func TestCheckByExamples(t *testing.T) { // P19.1
	for keys, want := range map[string]api.Errno{
		"":                                    api.OK,
		"(1:1=10)":                            api.OK,
		"(1:2=10)":                            api.ErrForm, // the root of the keys
		"(1:0=10)":                            api.ErrForm,
		"(2:1 (1:1=0) (2:2=0))":               api.ErrForm, // the sums
		"(2:0 (1:1=0) (2:1=0))":               api.ErrForm,
		"(2:2 (1:1=0) (2:1=0))":               api.ErrForm,
		"(2:1 (1:0=0) (2:0=0))":               api.ErrForm, // leaves of weight 0
		"(2:1 (1:2=0) (2:2=0))":               api.OK,      // violations may be there
		"(3:1 (2:0 (1:1=0) (2:1=0)) (3:1=0))": api.OK,
		"(3:1 (2:0 (1:1=0) (2:1=0)) (3:2=0))": api.ErrForm,
		"(4:1 (3:0 (2:0 (1:1=0) (2:1=0)) (3:1=0)) (4:1=0))":          api.OK,
		"(2:1 (3:1=0) (4:1=0))":                                      api.ErrForm, // the order
		"(2:1 (1:1=0) (1:1=0))":                                      api.ErrForm,
		"(1:1 (1:1=0) (2:1=0))":                                      api.ErrForm,
		"(2:1 (-9223372036854775808:1=0) (9223372036854775807:1=0))": api.OK,
		"(2:1 (1:1000000=0) (2:1000000=0))":                          api.OK,
	} {
		if got := seq.Check(read(t, keys)); got != want {
			t.Errorf("Check(%q) = %d, want %d", keys, got, want)
		}
	}
}

// noTables: what every call that takes a table refuses, and how.
func noTables(t *testing.T) map[string]struct {
	t []api.Node
	e api.Errno
} {
	changed := func(change func(n []api.Node)) []api.Node {
		n := read(t, "(7:1 (5:1=0) (7:1=0))")
		change(n)
		return n
	}
	type wrong = struct {
		t []api.Node
		e api.Errno
	}
	lone := api.Node{Key: 4, Weight: 1, Left: -1, Right: -1}
	return map[string]wrong{
		"no nodes":               {nil, api.ErrForm},
		"a node too many":        {make([]api.Node, api.MaxNodes+1), api.ErrBig},
		"many nodes and no tree": {make([]api.Node, api.MaxNodes), api.ErrForm},
		"a leaf alone":           {[]api.Node{lone}, api.ErrForm},
		"a sentinel alone":       {[]api.Node{inf(-1, -1)}, api.ErrForm},
		"keys without a crown":   {[]api.Node{{Key: 5, Weight: 1, Left: 1, Right: 2}, lone, {Key: 5, Weight: 1, Left: -1, Right: -1}}, api.ErrForm},
		"a child out of range":   {changed(func(n []api.Node) { n[2].Right = 7 }), api.ErrForm},
		"a ring":                 {changed(func(n []api.Node) { n[2].Right = 1 }), api.ErrForm},
		"a weight below 0":       {changed(func(n []api.Node) { n[3].Weight = -1 }), api.ErrForm},
		"a weight too great":     {changed(func(n []api.Node) { n[3].Weight, n[4].Weight = api.MaxWeight+1, api.MaxWeight+1 }), api.ErrForm},
		"a heavy entry":          {changed(func(n []api.Node) { n[0].Weight = 2 }), api.ErrForm},
		"a light arch":           {changed(func(n []api.Node) { n[1].Weight = 0 }), api.ErrForm},
		"a key for a sentinel":   {changed(func(n []api.Node) { n[6].Inf = 0 }), api.ErrForm},
		"a sentinel for a key":   {changed(func(n []api.Node) { n[4] = inf(-1, -1) }), api.ErrForm},
		"one arch alone":         {[]api.Node{inf(1, 2), lone, inf(-1, -1)}, api.ErrForm},
		"keys out of order":      {changed(func(n []api.Node) { n[3].Key, n[4].Key = 7, 5 }), api.ErrForm},
		"a key beside its place": {changed(func(n []api.Node) { n[3].Key = 7 }), api.ErrForm},
		"uneven sums":            {changed(func(n []api.Node) { n[4].Weight = 2 }), api.ErrForm},
		"a heavy root":           {changed(func(n []api.Node) { n[2].Weight = 2 }), api.ErrForm},
		"a light root":           {changed(func(n []api.Node) { n[2].Weight = 0 }), api.ErrForm},
		"leaves of weight 0":     {changed(func(n []api.Node) { n[3].Weight, n[4].Weight = 0, 0 }), api.ErrForm},
	}
}

func TestTablesThatAreRefused(t *testing.T) { // P19.1, P19.2
	for name, c := range noTables(t) {
		if got := seq.Check(c.t); got != c.e {
			t.Errorf("%s: Check = %d, want %d", name, got, c.e)
		}
		// The table's error comes ahead of all others, so each call has another one too.
		if at, m, e := seq.Next(c.t, 5); at != 0 || m != (steps.Move{}) || e != c.e {
			t.Errorf("%s: Next = %d, %v, %d", name, at, m, e)
		}
		for _, most := range []int{-1, 0, 5, seq.MaxTurns + 1} {
			if n, turns, is, e := seq.Clean(c.t, 5, most); len(n)+len(turns) != 0 || is || e != c.e {
				t.Errorf("%s: Clean = %v, %v, %v, %d", name, n, turns, is, e)
			}
		}
		for _, o := range []api.Op{{Kind: 0}, {Kind: 10}, {Kind: api.Get, Key: 5}, put(5, 1), del(5)} {
			if n, ret, dirty, e := seq.Change(c.t, o); len(n)+len(ret.Pairs)+ret.Key+ret.Val != 0 || ret.Ok || dirty || e != c.e {
				t.Errorf("%s: Change = %v, %v, %v, %d", name, n, ret, dirty, e)
			}
			if n, ret, turns, e := seq.Do(c.t, o); len(n)+len(ret.Pairs)+ret.Key+ret.Val+len(turns) != 0 || ret.Ok || e != c.e {
				t.Errorf("%s: Do = %v, %v, %v, %d", name, n, ret, turns, e)
			}
		}
		for _, ops := range [][]api.Op{nil, {{Kind: 0}}, {put(5, 1)}, make([]api.Op, seq.MaxRun+1)} {
			if n, rets, many, e := seq.Run(c.t, ops); len(n)+len(rets)+len(many) != 0 || e != c.e {
				t.Errorf("%s: Run = %v, %v, %v, %d", name, n, rets, many, e)
			}
		}
	}
}

// TestCheckByChance: fit trees, with something changed or not.
func TestCheckByChance(t *testing.T) { // P19.1
	r := rand.New(rand.NewSource(1))
	good, bad := 0, 0
	for range 5000 {
		n := someFit(r, -3, r.Intn(7)).table()
		for range r.Intn(3) {
			if keys := len(n) - 4; keys > 0 {
				x := &n[2+r.Intn(keys)]
				*[]*int{&x.Key, &x.Weight}[r.Intn(2)] += r.Intn(3) - 1
				x.Weight = max(x.Weight, 0)
			}
		}
		want := api.ErrForm
		if treeOf(n, map[*tree]int{}).isFit() {
			want = api.OK
			good++
		} else {
			bad++
		}
		n, _ = shuffled(r, n)
		if got := seq.Check(n); got != want {
			t.Fatalf("Check(%v) = %d, want %d", n, got, want)
		}
	}
	if good < 1000 || bad < 1000 {
		t.Errorf("%d are fit, %d aren't: the test sees too little", good, bad)
	}
}

func move(kind int, mirror bool) steps.Move { return steps.Move{Kind: kind, Mirror: mirror} }

// TestNextByEachCase: the case, told for a left child, at the root of the keys (x stands at place 2).
func TestNextByEachCase(t *testing.T) { // P19.1
	for _, c := range []struct {
		keys string
		key  int
		at   int
		m    steps.Move
	}{
		// 1, red below f
		{"(4:1 (3:0 (2:0 (1:1=0) (2:1=0)) (3:1=0)) (4:1=0))", 1, 2, move(steps.RB1, false)},
		{"(4:1 (2:0 (1:1=0) (3:0 (2:1=0) (3:1=0))) (4:1=0))", 2, 2, move(steps.RB2, false)},
		{"(4:1 (3:0 (2:0 (1:1=0) (2:1=0)) (3:1=0)) (5:0 (4:1=0) (5:1=0)))", 1, 2, move(steps.BLK, false)},
		{"(4:1 (2:0 (1:1=0) (3:0 (2:1=0) (3:1=0))) (5:0 (4:1=0) (5:1=0)))", 3, 2, move(steps.BLK, false)},
		{"(2:1 (1:1=0) (3:0 (2:1=0) (4:0 (3:1=0) (4:1=0))))", 9, 2, move(steps.RB1, true)},
		{"(2:1 (1:1=0) (4:0 (3:0 (2:1=0) (3:1=0)) (4:1=0)))", 2, 2, move(steps.RB2, true)},
		{"(3:1 (2:0 (1:1=0) (2:1=0)) (4:0 (3:1=0) (5:0 (4:1=0) (5:1=0))))", 5, 2, move(steps.BLK, false)},
		// 1, both children of f are red: RB1, whichever of them is v
		{"(5:1 (3:0 (2:0 (1:1=0) (2:1=0)) (4:0 (3:1=0) (4:1=0))) (5:1=0))", 1, 2, move(steps.RB1, false)},
		{"(5:1 (3:0 (2:0 (1:1=0) (2:1=0)) (4:0 (3:1=0) (4:1=0))) (5:1=0))", 4, 2, move(steps.RB1, false)},
		// 2: v is 1, f 2, r 3
		{"(6:1 (2:0 (1:2=0) (4:0 (3:1 (2:1=0) (3:1=0)) (4:2=0))) (6:2=0))", 1, 2, move(steps.RB2, false)},
		{"(6:1 (4:0 (2:0 (1:2=0) (2:2=0)) (4:2=0)) (6:2=0))", 5, 2, move(steps.RB1, false)},
		{"(6:1 (4:0 (2:0 (1:2=0) (2:2=0)) (4:2=0)) (7:0 (6:2=0) (7:2=0)))", 5, 2, move(steps.BLK, false)},
		{"(1:1 (0:2=0) (2:0 (1:2=0) (3:0 (2:2=0) (3:2=0))))", 1, 2, move(steps.RB1, true)},
		{"(1:1 (0:2=0) (4:0 (2:0 (1:2=0) (2:2=0)) (4:2=0)))", 4, 2, move(steps.RB2, true)},
		// 3: v is 1, f 2, r the root's right child
		{"(2:1 (1:2=0) (5:0 (3:0 (2:2=0) (3:2=0)) (6:0 (5:2=0) (6:2=0))))", 1, 2, move(steps.RB1, true)},
		{"(2:1 (1:2=0) (5:0 (3:0 (2:2=0) (3:2=0)) (5:2=0)))", 1, 2, move(steps.RB2, true)},
		{"(2:1 (1:2=0) (5:0 (2:2=0) (5:2=0)))", 1, 2, move(steps.W1, false)},
		{"(2:1 (1:2=0) (5:0 (3:1 (2:1=0) (4:0 (3:1=0) (4:1=0))) (5:2=0)))", 1, 2, move(steps.W4, false)},
		{"(2:1 (1:2=0) (6:0 (4:1 (3:0 (2:1=0) (3:1=0)) (5:0 (4:1=0) (5:1=0))) (6:2=0)))", 1, 2, move(steps.W4, false)},
		{"(2:1 (1:2=0) (5:0 (4:1 (3:0 (2:1=0) (3:1=0)) (4:1=0)) (5:2=0)))", 1, 2, move(steps.W3, false)},
		{"(2:1 (1:2=0) (5:0 (3:1 (2:1=0) (3:1=0)) (5:2=0)))", 1, 2, move(steps.W2, false)},
		// 4
		{"(2:1 (1:2=0) (3:1 (2:1=0) (4:0 (3:1=0) (4:1=0))))", 1, 2, move(steps.W5, false)},
		{"(2:1 (1:2=0) (4:1 (3:0 (2:1=0) (3:1=0)) (5:0 (4:1=0) (5:1=0))))", 1, 2, move(steps.W5, false)},
		{"(2:1 (1:2=0) (4:1 (3:0 (2:1=0) (3:1=0)) (4:1=0)))", 1, 2, move(steps.W6, false)},
		{"(2:1 (1:2=0) (4:1 (2:1=0) (4:1=0)))", 1, 2, move(steps.PUSH, false)},
		{"(2:1 (1:3=0) (4:1 (2:2=0) (4:2=0)))", 0, 2, move(steps.PUSH, false)},
		// 5
		{"(2:1 (1:2=0) (2:2=0))", 1, 2, move(steps.W7, false)},
		{"(2:1 (1:2=0) (2:2=0))", 2, 2, move(steps.W7, false)},
		// deeper: the first violation counts
		{"(9:1 (4:1 (2:2=0) (4:2=0)) (9:3=0))", 2, 3, move(steps.W7, false)},
		{"(9:1 (4:1 (2:2=0) (4:2=0)) (9:3=0))", 9, 2, move(steps.PUSH, true)},
		{"(9:1 (4:2 (2:2=0) (4:2=0)) (9:4=0))", 2, 2, move(steps.W7, false)},
	} {
		if at, m, e := seq.Next(read(t, c.keys), c.key); at != c.at || m != c.m || e != api.OK {
			t.Errorf("Next(%q, %d) = %d, %v, %d, want %d, %v", c.keys, c.key, at, m, e, c.at, c.m)
		}
	}
}

func TestNextOfCleanPaths(t *testing.T) { // P19.1
	for _, c := range []struct {
		keys string
		key  int
	}{
		{"", 1}, {"(1:1=10)", 1}, {"(1:1=10)", math.MinInt}, {"(2:1 (1:1=10) (2:1=20))", 2}, {"(2:1 (1:2=0) (4:1 (2:1=0) (4:1=0)))", 2}, {"(2:1 (1:2=0) (4:1 (2:1=0) (4:1=0)))", math.MaxInt},
		{"(4:1 (3:0 (2:0 (1:1=0) (2:1=0)) (3:1=0)) (4:1=0))", 3}, {"(4:1 (3:0 (2:0 (1:1=0) (2:1=0)) (3:1=0)) (4:1=0))", 4},
	} {
		if at, m, e := seq.Next(read(t, c.keys), c.key); at != 0 || m != (steps.Move{}) || e != api.ErrNone {
			t.Errorf("Next(%q, %d) = %d, %v, %d", c.keys, c.key, at, m, e)
		}
	}
}

// wantNext holds Next of a table against the chapter's words; it answers the case's name.
func wantNext(t *testing.T, n []api.Node, key int) string {
	t.Helper()
	places := map[*tree]int{}
	x, m, name := treeOf(n, places).next(key)
	want := api.OK
	if x == nil {
		want = api.ErrNone
	} else if can, e := steps.Can(n, places[x], m); !can || e != api.OK {
		t.Fatalf("%v at %d of %v: can it be done? %v, %d", m, places[x], n, can, e)
	}
	if at, got, e := seq.Next(n, key); at != places[x] || got != m || e != want {
		t.Fatalf("Next(%v, %d) = %d, %v, %d, want %d, %v, %d", n, key, at, got, e, places[x], m, want)
	}
	return name
}

// TestNextByChance: each case is met, on both sides.
func TestNextByChance(t *testing.T) { // P19.1
	r := rand.New(rand.NewSource(2))
	seen := map[string]int{}
	for range 40000 {
		leaves := r.Intn(14)
		n, _ := shuffled(r, someFit(r, 0, leaves).table())
		seen[wantNext(t, n, r.Intn(2*leaves+3)-1)]++
	}
	delete(seen, "")
	const all = 2*10 + 10 + 8 // ten cases of their own; of red below f, where v is red: BLK and RB1 with f on both sides of e, RB2 where v is the inner one; where r is: BLK, and RB1 or RB2
	if len(seen) != all {
		t.Errorf("%d of %d cases are seen: %v", len(seen), all, seen)
	}
}

// TestNextOfAllSmall: every fit tree of up to five leaves with these sums, every key.
func TestNextOfAllSmall(t *testing.T) { // P19.1
	for leaves := 1; leaves <= 5; leaves++ {
		for sum := 1; sum <= 3; sum++ {
			for _, x := range allFit(0, leaves, sum) {
				n := x.table()
				for key := -1; key <= 2*leaves; key++ {
					wantNext(t, n, key)
				}
			}
		}
	}
}

func TestNextOfAllPlaces(t *testing.T) { // P19.1: places are those of t, as it is numbered there
	r := rand.New(rand.NewSource(3))
	n := read(t, "(9:1 (4:1 (2:2=0) (4:2=0)) (9:3=0))")
	for range 20 {
		odd, at := shuffled(r, n)
		if got, m, e := seq.Next(odd, 2); got != at[3] || m.Kind != steps.W7 || e != api.OK {
			t.Errorf("Next(%v, 2) = %d, %v, %d, want %d", odd, got, m, e, at[3])
		}
		if norm, _ := table.Norm(odd); seq.Check(norm) != api.OK {
			t.Error("shuffled is no fit table")
		}
	}
}
