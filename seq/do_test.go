package seq_test

import (
	"math"
	"math/rand"
	"slices"
	"testing"

	"larch/api"
	"larch/model"
	"larch/seq"
	"larch/steps"
	"larch/table"
)

func pairs(numbers ...int) []api.Pair {
	var list []api.Pair
	for i := 0; i < len(numbers); i += 2 {
		list = append(list, api.Pair{Key: numbers[i], Val: numbers[i+1]})
	}
	return list
}

func TestOfByExamples(t *testing.T) { // P19.2
	for _, c := range []struct {
		pairs []api.Pair
		keys  string
	}{
		{nil, ""}, {[]api.Pair{}, ""}, {pairs(1, 10), "(1:1=10)"}, {pairs(1, 10, 2, 20), "(2:1 (1:1=10) (2:1=20))"}, {pairs(2, 20, 1, 10), "(2:1 (1:1=10) (2:1=20))"}, {pairs(1, 10, 1, 11), "(1:1=11)"},
		{pairs(math.MaxInt, 1, math.MinInt, 2), "(9223372036854775807:1 (-9223372036854775808:1=2) (9223372036854775807:1=1))"},
		{pairs(1, 10, 2, 20, 3, 30, 4, 40), "(3:1 (2:0 (1:1=10) (2:1=20)) (4:0 (3:1=30) (4:1=40)))"},
	} {
		if got, e := seq.Of(c.pairs); !slices.Equal(got, read(t, c.keys)) || e != api.OK {
			t.Errorf("Of(%v) = %v, %d, want %q", c.pairs, got, e, c.keys)
		}
	}
}

func turn(at, kind int, mirror bool) seq.Turn { return seq.Turn{At: at, Move: move(kind, mirror)} }

// TestDoByExamples: the chapter's, and changes of each kind at the edges.
func TestDoByExamples(t *testing.T) { // P19.2
	two, three := "(2:1 (1:1=10) (2:1=20))", "(2:1 (1:1=10) (3:0 (2:1=20) (3:1=30)))"
	four, five := "(3:1 (2:0 (1:1=10) (2:1=20)) (4:0 (3:1=30) (4:1=40)))", "(3:1 (2:1 (1:1=10) (2:1=20)) (4:1 (3:1=30) (5:0 (4:1=40) (5:1=50))))"
	for _, c := range []struct {
		from   string
		o      api.Op
		change string
		dirty  bool
		turns  []seq.Turn
		to     string
		ret    api.Ret
	}{
		{two, put(3, 30), three, true, nil, three, api.Ret{}},
		{three, put(4, 40), "(2:1 (1:1=10) (3:0 (2:1=20) (4:0 (3:1=30) (4:1=40))))", true, []seq.Turn{turn(2, steps.RB1, true)}, four, api.Ret{}},
		{four, put(5, 50), "(3:1 (2:0 (1:1=10) (2:1=20)) (4:0 (3:1=30) (5:0 (4:1=40) (5:1=50))))", true, []seq.Turn{turn(2, steps.BLK, false)}, five, api.Ret{}},
		{five, del(1), "(3:1 (2:2=20) (4:1 (3:1=30) (5:0 (4:1=40) (5:1=50))))", true, []seq.Turn{turn(2, steps.W5, false)}, "(4:1 (3:1 (2:1=20) (3:1=30)) (5:1 (4:1=40) (5:1=50)))", api.Ret{Ok: true, Val: 10}},
		{"(1:1=10)", del(1), "", true, nil, "", api.Ret{Ok: true, Val: 10}},
		{"(1:1=10)", del(9), "(1:1=10)", false, nil, "(1:1=10)", api.Ret{}},
		{"", del(9), "", false, nil, "", api.Ret{}},
		{"", put(0, 7), "(0:1=7)", true, nil, "(0:1=7)", api.Ret{}}, // a sentinel's Key is 0 too
		{"", absent(-1, 7), "(-1:1=7)", true, nil, "(-1:1=7)", api.Ret{Ok: true}},
		{"", del(0), "", false, nil, "", api.Ret{}},
		{"(1:1=10)", put(0, 5), "(1:1 (0:1=5) (1:1=10))", true, nil, "(1:1 (0:1=5) (1:1=10))", api.Ret{}},
		{"(1:1=10)", absent(2, 5), "(2:1 (1:1=10) (2:1=5))", true, nil, "(2:1 (1:1=10) (2:1=5))", api.Ret{Ok: true}},
		{"(1:1=10)", put(1, 10), "(1:1=10)", false, nil, "(1:1=10)", api.Ret{Ok: true, Val: 10}},
		{two, put(2, 21), "(2:1 (1:1=10) (2:1=21))", false, nil, "(2:1 (1:1=10) (2:1=21))", api.Ret{Ok: true, Val: 20}},
		{two, absent(2, 21), two, false, nil, two, api.Ret{Val: 20}},
		{two, del(1), "(2:1=20)", true, nil, "(2:1=20)", api.Ret{Ok: true, Val: 10}},
		{two, del(2), "(1:1=10)", true, nil, "(1:1=10)", api.Ret{Ok: true, Val: 20}},
		{three, del(1), "(3:1 (2:1=20) (3:1=30))", true, nil, "(3:1 (2:1=20) (3:1=30))", api.Ret{Ok: true, Val: 10}}, // what comes to the root's place is red
		{three, del(2), "(2:1 (1:1=10) (3:1=30))", true, nil, "(2:1 (1:1=10) (3:1=30))", api.Ret{Ok: true, Val: 20}},
		{"(2:1 (1:5=10) (2:5=20))", del(2), "(1:1=10)", true, nil, "(1:1=10)", api.Ret{Ok: true, Val: 20}},
		{"(2:1 (1:2=10) (2:2=20))", put(3, 30), "(2:1 (1:2=10) (3:1 (2:1=20) (3:1=30)))", true, nil, "(2:1 (1:2=10) (3:1 (2:1=20) (3:1=30)))", api.Ret{}}, // another's violation stays
		{"(2:1 (1:2=10) (2:2=20))", put(1, 11), "(2:1 (1:2=11) (2:2=20))", false, nil, "(2:1 (1:2=11) (2:2=20))", api.Ret{Ok: true, Val: 10}},             // nothing came or went
		{"(2:1 (1:2=10) (2:2=20))", absent(0, 5), "(2:1 (1:1 (0:1=5) (1:1=10)) (2:2=20))", true, nil, "(2:1 (1:1 (0:1=5) (1:1=10)) (2:2=20))", api.Ret{Ok: true}},
		{two, api.Op{Kind: api.Get, Key: 2}, two, false, nil, two, api.Ret{Ok: true, Val: 20}},
		{two, api.Op{Kind: api.Successor, Key: 1}, two, false, nil, two, api.Ret{Ok: true, Key: 2, Val: 20}},
		{two, api.Op{Kind: api.Predecessor, Key: 2}, two, false, nil, two, api.Ret{Ok: true, Key: 1, Val: 10}},
		{two, api.Op{Kind: api.Min, Key: 9}, two, false, nil, two, api.Ret{Ok: true, Key: 1, Val: 10}},
		{two, api.Op{Kind: api.Max}, two, false, nil, two, api.Ret{Ok: true, Key: 2, Val: 20}},
		{two, api.Op{Kind: api.Range, Key: 2, Hi: 9}, two, false, nil, two, api.Ret{Ok: true, Pairs: pairs(2, 20)}},
		{"", api.Op{Kind: api.Range, Hi: 9}, "", false, nil, "", api.Ret{Ok: true}},
		{"", api.Op{Kind: api.Min}, "", false, nil, "", api.Ret{}},
	} {
		n, ret, dirty, e := seq.Change(read(t, c.from), c.o)
		if !slices.Equal(n, read(t, c.change)) || !model.SameRet(ret, c.ret) || dirty != c.dirty || e != api.OK {
			t.Errorf("Change(%q, %v) = %v, %v, %v, %d", c.from, c.o, n, ret, dirty, e)
		}
		n, ret, turns, e := seq.Do(read(t, c.from), c.o)
		if !slices.Equal(n, read(t, c.to)) || !model.SameRet(ret, c.ret) || !slices.Equal(turns, c.turns) || e != api.OK {
			t.Errorf("Do(%q, %v) = %v, %v, %v, %d", c.from, c.o, n, ret, turns, e)
		}
	}
}

// wantDo holds Change and Do of a table against the chapter's words; it answers the table behind Do.
func wantDo(t *testing.T, n []api.Node, o api.Op) ([]api.Node, int) {
	t.Helper()
	m, _ := table.Pairs(n)
	_, ret, _ := model.Do(m, o)
	x, dirty := treeOf(n, map[*tree]int{}).changed(o, true)
	if got, answer, is, e := seq.Change(n, o); !slices.Equal(got, x.table()) || !model.SameRet(answer, ret) || is != dirty || e != api.OK {
		t.Fatalf("Change(%v, %v) = %v, %v, %v, %d, want %v, %v, %v", n, o, got, answer, is, e, x.table(), ret, dirty)
	}
	then, turns := done(n, o)
	if got, answer, steps, e := seq.Do(n, o); !slices.Equal(got, then) || !model.SameRet(answer, ret) || !slices.Equal(steps, turns) || e != api.OK {
		t.Fatalf("Do(%v, %v) = %v, %v, %v, %d, want %v, %v, %v", n, o, got, answer, steps, e, then, ret, turns)
	}
	return then, len(turns)
}

func TestDoByChance(t *testing.T) { // P19.2
	r := rand.New(rand.NewSource(4))
	most := 0
	for range 10000 {
		leaves := r.Intn(14)
		n, _ := shuffled(r, someFit(r, 0, leaves).table())
		_, many := wantDo(t, n, someOp(r, leaves))
		most = max(most, many)
	}
	if most < 10 {
		t.Errorf("at most %d steps: the test sees too little", most)
	}
}

// TestDoOfAllSmall: every fit tree of up to four leaves with these sums, every operation that changes, every key.
func TestDoOfAllSmall(t *testing.T) { // P19.2
	for leaves := 0; leaves <= 4; leaves++ {
		for sum := 1; sum <= 3; sum++ {
			trees := []*tree{nil}
			if leaves > 0 {
				trees = allFit(0, leaves, sum)
			}
			for _, x := range trees {
				for key := -1; key <= 2*leaves; key++ {
					for _, o := range []api.Op{put(key, 7), absent(key, 7), del(key), {Kind: api.Get, Key: key}} {
						wantDo(t, x.table(), o)
					}
				}
			}
		}
	}
}

func TestCleanByExamples(t *testing.T) { // P19.2
	heavy := "(2:1 (1:3=0) (2:3=0))"
	for _, c := range []struct {
		from      string
		key, most int
		to        string
		turns     []seq.Turn
		clean     bool
	}{
		{heavy, 1, 0, heavy, nil, false},
		{heavy, 1, 1, "(2:1 (1:2=0) (2:2=0))", []seq.Turn{turn(2, steps.W7, false)}, false},
		{heavy, 1, 2, "(2:1 (1:1=0) (2:1=0))", []seq.Turn{turn(2, steps.W7, false), turn(2, steps.W7, false)}, true},
		{heavy, 1, 3, "(2:1 (1:1=0) (2:1=0))", []seq.Turn{turn(2, steps.W7, false), turn(2, steps.W7, false)}, true},
		{"", 1, 0, "", nil, true},
		{"(1:1=10)", 1, seq.MaxTurns, "(1:1=10)", nil, true},
		{"(2:1 (1:2=0) (4:1 (2:1=0) (4:1=0)))", 3, 9, "(2:1 (1:2=0) (4:1 (2:1=0) (4:1=0)))", nil, true}, // the violation lies beside the path
		{"(2:1 (1:2=0) (4:1 (2:1=0) (4:1=0)))", 1, 9, "(2:1 (1:1=0) (4:0 (2:1=0) (4:1=0)))", []seq.Turn{turn(2, steps.PUSH, false)}, true},
		{"(9:1 (4:1 (2:2=0) (4:2=0)) (9:3=0))", 4, 9, "(9:1 (4:1 (2:1=0) (4:1=0)) (9:2=0))", []seq.Turn{turn(3, steps.W7, false), turn(2, steps.W7, false)}, true},
	} {
		n, turns, clean, e := seq.Clean(read(t, c.from), c.key, c.most)
		if !slices.Equal(n, read(t, c.to)) || !slices.Equal(turns, c.turns) || clean != c.clean || e != api.OK {
			t.Errorf("Clean(%q, %d, %d) = %v, %v, %v, %d", c.from, c.key, c.most, n, turns, clean, e)
		}
	}
	for _, most := range []int{-1, math.MinInt, seq.MaxTurns + 1, math.MaxInt} {
		for _, keys := range []string{"", heavy} {
			if n, turns, clean, e := seq.Clean(read(t, keys), 1, most); len(n)+len(turns) != 0 || clean || e != api.ErrArg {
				t.Errorf("Clean(%q, 1, %d) = %v, %v, %v, %d", keys, most, n, turns, clean, e)
			}
		}
	}
}

// TestCleanByChance: ended early, just then, and late.
func TestCleanByChance(t *testing.T) { // P19.2
	r := rand.New(rand.NewSource(5))
	cut := 0
	for range 6000 {
		leaves := r.Intn(16)
		n, _ := shuffled(r, someFit(r, 0, leaves).table())
		key := r.Intn(2*leaves+3) - 1
		_, all, _ := cleaned(n, key, seq.MaxTurns)
		for _, most := range []int{0, r.Intn(len(all) + 1), len(all), len(all) + 1, seq.MaxTurns} {
			want, turns, clean := cleaned(n, key, most)
			if got, its, is, e := seq.Clean(n, key, most); !slices.Equal(got, want) || !slices.Equal(its, turns) || is != clean || e != api.OK {
				t.Fatalf("Clean(%v, %d, %d) = %v, %v, %v, %d, want %v, %v, %v", n, key, most, got, its, is, e, want, turns, clean)
			}
			if !clean {
				cut++
			}
		}
	}
	if cut < 1000 {
		t.Errorf("%d ended early: the test sees too little", cut)
	}
}

func TestKindsThatAreRefused(t *testing.T) { // P19.2
	for _, kind := range []int{0, -1, 10, math.MinInt, math.MaxInt} {
		for _, keys := range []string{"", "(2:1 (1:3=0) (2:3=0))"} {
			n := read(t, keys)
			o := api.Op{Kind: kind, Key: 1}
			if got, ret, dirty, e := seq.Change(n, o); len(got)+ret.Key+ret.Val+len(ret.Pairs) != 0 || ret.Ok || dirty || e != api.ErrKind {
				t.Errorf("Change(%q, %v) = %v, %v, %v, %d", keys, o, got, ret, dirty, e)
			}
			if got, ret, turns, e := seq.Do(n, o); len(got)+ret.Key+ret.Val+len(ret.Pairs)+len(turns) != 0 || ret.Ok || e != api.ErrKind {
				t.Errorf("Do(%q, %v) = %v, %v, %v, %d", keys, o, got, ret, turns, e)
			}
			for _, ops := range [][]api.Op{{o}, {put(1, 1), o}, {o, put(1, 1)}, {put(1, 1), o, o, del(1)}} {
				if got, rets, many, e := seq.Run(n, ops); len(got)+len(rets)+len(many) != 0 || e != api.ErrKind {
					t.Errorf("Run(%q, %v) = %v, %v, %v, %d", keys, ops, got, rets, many, e)
				}
			}
		}
	}
}

// wantRun holds Run against the operations one behind the other.
func wantRun(t *testing.T, n []api.Node, ops []api.Op) []api.Node {
	t.Helper()
	m, _ := table.Pairs(n)
	_, rets, _ := model.Run(m, ops)
	many := make([]int, len(ops))
	then, _ := table.Norm(n)
	for i, o := range ops {
		var turns []seq.Turn
		then, turns = done(then, o)
		many[i] = len(turns)
	}
	got, answers, counts, e := seq.Run(n, ops)
	if !slices.Equal(got, then) || !slices.EqualFunc(answers, rets, model.SameRet) || !slices.Equal(counts, many) || e != api.OK {
		t.Fatalf("Run(%v, %v) = %v, %v, %v, %d, want %v, %v, %v", n, ops, got, answers, counts, e, then, rets, many)
	}
	return got
}

func someOps(r *rand.Rand, many, keys int) []api.Op {
	ops := make([]api.Op, many)
	for i := range ops {
		ops[i] = someOp(r, keys)
	}
	return ops
}

func TestRunByChance(t *testing.T) { // P19.2
	r := rand.New(rand.NewSource(6))
	for range 300 {
		leaves := r.Intn(10)
		n, _ := shuffled(r, someFit(r, 0, leaves).table())
		wantRun(t, n, someOps(r, r.Intn(40), 3+leaves))
	}
	for _, keys := range []int{1, 4, 20, 60} {
		wantRun(t, table.Empty(), someOps(r, 300, keys))
	}
	wantRun(t, read(t, "(2:1 (1:3=0) (2:3=0))"), nil)
}

func TestOfByChance(t *testing.T) { // P19.2
	r := rand.New(rand.NewSource(7))
	for range 200 {
		list := make([]api.Pair, r.Intn(40))
		want := table.Empty()
		for i := range list {
			list[i] = api.Pair{Key: []int{r.Intn(30), i, -i, math.MinInt + r.Intn(3), math.MaxInt - r.Intn(3)}[r.Intn(5)], Val: r.Intn(99)}
			want, _ = done(want, put(list[i].Key, list[i].Val))
		}
		if got, e := seq.Of(list); !slices.Equal(got, want) || e != api.OK {
			t.Fatalf("Of(%v) = %v, %d, want %v", list, got, e, want)
		}
	}
}
