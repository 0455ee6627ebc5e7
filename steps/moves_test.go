package steps_test

import (
	"slices"
	"strconv"
	"strings"
	"testing"

	"larch/api"
	"larch/steps"
)

// site is a tree at whose root a move can be done: what stands there then; what is taken out (by paths); single changes behind which it can't be done; and some behind which it still can. A change is a path with a weight, or a path with ! (that node is a leaf).
type site struct {
	kind                    int
	keys, want              string
	out, breaking, stayings string
}

func sites() []site {
	return []site{
		{steps.BLK, "(3:3 (2:0 (1:0=10) (2:1=20)) (4:0 (3:1=30) (4:1=40)))", "(3:2 (2:1 (1:0=10) (2:1=20)) (4:1 (3:1=30) (4:1=40)))",
			"x l r", "x=0 l=1 l=2 r=1 r=2 ll=1 ll=2 l! x!", "x=1 ll=0 lr=0 rl=0 rr=0 lr=2 r!"},
		{steps.BLK, "(3:1 (2:0 (1:1=10) (2:0=20)) (4:0=40))", "(3:0 (2:1 (1:1=10) (2:0=20)) (4:1=40))", "x l r", "x=0 l=1 r=1 lr=1 l!", "ll=0"},
		{steps.BLK, "(3:1 (2:0=20) (4:0 (3:0=30) (4:5=40)))", "(3:0 (2:1=20) (4:1 (3:0=30) (4:5=40)))", "x l r", "x=0 l=1 r=1 rl=1 r!", "rr=0"},
		{steps.BLK, "(3:1 (2:0=20) (4:0 (3:5=30) (4:0=40)))", "(3:0 (2:1=20) (4:1 (3:5=30) (4:0=40)))", "x l r", "x=0 l=1 r=1 rr=1 r!", "rl=0"},
		{steps.RB1, "(6:3 (4:0 (2:0 (1:1=10) (2:1=20)) (4:5=40)) (6:2=60))", "(4:3 (2:0 (1:1=10) (2:1=20)) (6:0 (4:5=40) (6:2=60)))",
			"x l", "x=0 l=1 l=2 ll=1 ll=2 r=0 l! x!", "x=1 r=1 ll! lr=0 lr=1"},
		{steps.RB2, "(6:3 (2:0 (1:1=10) (4:0 (2:2=20) (4:3=40))) (6:1=60))", "(4:3 (2:0 (1:1=10) (2:2=20)) (6:0 (4:3=40) (6:1=60)))",
			"x l lr", "x=0 l=1 l=2 lr=1 lr=2 ll=0 r=0 lr! l! x!", "x=1 ll=2 r=2 lrl=0 lrr=0"},
		{steps.PUSH, "(2:3 (1:4=10) (4:1 (2:1=20) (4:2=40)))", "(2:4 (1:3=10) (4:0 (2:1=20) (4:2=40)))",
			"x l r", "l=1 l=0 r=0 r=2 rl=0 rr=0 r! x!", "x=0 x=1 l=2 rl=2 rr=1"},
		{steps.W1, "(2:3 (1:4=10) (6:0 (4:5 (2:1=20) (4:1=40)) (6:7=60)))", "(6:3 (2:1 (1:3=10) (4:4 (2:1=20) (4:1=40))) (6:7=60))",
			"x l r rl", "l=1 l=0 r=1 r=2 rl=1 rl=0 r! x!", "x=0 l=2 rl=2 rl! rr=0 rll=0 rlr=0"},
		{steps.W2, "(2:3 (1:4=10) (6:0 (4:1 (2:5=20) (4:6=40)) (6:7=60)))", "(6:3 (2:1 (1:3=10) (4:0 (2:5=20) (4:6=40))) (6:7=60))",
			"x l r rl", "l=1 l=0 r=1 r=2 rl=0 rl=2 rll=0 rlr=0 rl! r! x!", "x=0 l=2 rll=1 rlr=1 rr=0"},
		{steps.W3, "(2:3 (1:4=10) (6:0 (5:1 (4:0 (2:5=20) (4:6=40)) (5:8=50)) (6:7=60)))", "(6:3 (4:0 (2:1 (1:3=10) (2:5=20)) (5:1 (4:6=40) (5:8=50))) (6:7=60))",
			"x l r rl rll", "l=1 l=0 r=1 r=2 rl=0 rl=2 rll=1 rll=2 rlr=0 rll! rl! r! x!", "x=0 l=2 rlr=1 rr=0 rlll=0 rllr=0"},
		{steps.W4, "(2:3 (1:4=10) (6:0 (4:1 (2:5=20) (5:0 (4:6=40) (5:8=50))) (6:7=60)))", "(6:3 (4:0 (2:1 (1:3=10) (2:5=20)) (5:1 (4:6=40) (5:8=50))) (6:7=60))",
			"x l r rl rlr", "l=1 l=0 r=1 r=2 rl=0 rl=2 rlr=1 rlr=2 rl! r! x!", "x=0 l=2 rll=0 rll=1 rlr! rr=0"},
		{steps.W5, "(3:3 (2:4=20) (4:1 (3:7=30) (5:0 (4:1=40) (5:1=50))))", "(4:3 (3:1 (2:3=20) (3:7=30)) (5:1 (4:1=40) (5:1=50)))",
			"x l r rr", "l=1 l=0 r=0 r=2 rr=1 rr=2 r! x!", "x=0 l=2 rl=0 rl=1 rr! rrl=0"},
		{steps.W6, "(2:3 (1:4=10) (6:1 (4:0 (2:5=20) (4:6=40)) (6:7=60)))", "(4:3 (2:1 (1:3=10) (2:5=20)) (6:1 (4:6=40) (6:7=60)))",
			"x l r rl", "l=1 l=0 r=0 r=2 rl=1 rl=2 rr=0 rl! r! x!", "x=0 l=2 rr=1 rll=0 rlr=0"},
		{steps.W7, "(2:3 (1:4=10) (2:2=20))", "(2:4 (1:3=10) (2:1=20))", "x l r", "l=1 l=0 r=1 r=0 x!", "x=0 l=2 r=3"},
		{steps.W7, "(3:0 (2:2 (1:0=10) (2:0=20)) (4:3 (3:1=30) (4:1=40)))", "(3:1 (2:1 (1:0=10) (2:0=20)) (4:2 (3:1=30) (4:1=40)))", "x l r", "l=1 r=1 x!", "l! r!"},
	}
}

// changed: a tree with one thing changed.
func changed(x *tree, change string) *tree {
	if path, is := strings.CutSuffix(change, "!"); is {
		n := x.at(path)
		return x.with(n, &tree{key: n.key, weight: n.weight, val: 7})
	}
	path, weight, _ := strings.Cut(change, "=")
	n := *x.at(path)
	n.weight, _ = strconv.Atoi(weight)
	return x.with(x.at(path), &n)
}

// spread is a tree in three surroundings: as the root of the keys, and as the left and as the right child of it.
type spread struct {
	table []api.Node
	at    int
	lead  string // ahead of and behind its text in the tree of the keys
	trail string
}

func spreads(t *testing.T, keys string) []spread {
	left, right := "(90:1 ", "(-90:1 (-91:1=0) "
	return []spread{
		{read(t, keys), 2, "", ""},
		{read(t, left+keys+" (90:1=0))"), 3, left, " (90:1=0))"},
		{read(t, right+keys+")"), 4, right, ")"},
	}
}

// moved: a site's tree, its result and what it takes out, for the move or its mirror.
func (s site) moved(t *testing.T, mirror bool) (x, want *tree, out []string) {
	x = treeOf(read(t, s.keys), 2, map[*tree]int{})
	want = treeOf(read(t, s.want), 2, map[*tree]int{})
	out = strings.Fields(s.out)
	if mirror {
		x, want = x.mirror(), want.mirror()
		for i, path := range out {
			out[i] = mirrored(path)
		}
		if len(out) > 2 && len(out[1]) == len(out[2]) {
			out[1], out[2] = out[2], out[1] // the left one first
		}
	}
	return x, want, out
}

func TestEachMove(t *testing.T) { // P18.1, P18.2
	for _, s := range sites() {
		for _, mirror := range []bool{false, true} {
			m := steps.Move{Kind: s.kind, Mirror: mirror && s.kind != steps.BLK && s.kind != steps.W7} // these two are their own mirrors
			x, want, out := s.moved(t, mirror)
			for _, sp := range spreads(t, x.text()) {
				y := *want
				if sp.at == 2 {
					y.weight = 1
				}
				var places []int
				for _, path := range out {
					places = append(places, placeOf(sp.table, sp.at, path))
				}
				wantDone(t, sp, m, sp.lead+y.text()+sp.trail, places)
			}
		}
	}
}

func wantDone(t *testing.T, sp spread, m steps.Move, want string, out []int) {
	t.Helper()
	if can, e := steps.Can(sp.table, sp.at, m); !can || e != api.OK {
		t.Errorf("Can(%s, %d, %v) = %v, %d", keysText(t, sp.table), sp.at, m, can, e)
	}
	got, e := steps.Do(sp.table, sp.at, m)
	if e != api.OK || !slices.Equal(got, read(t, want)) {
		t.Errorf("Do(%s, %d, %v) = %v, %d, want %s", keysText(t, sp.table), sp.at, m, got, e, want)
	}
	if got, e := steps.Touched(sp.table, sp.at, m); e != api.OK || !slices.Equal(got, out) {
		t.Errorf("Touched(%s, %d, %v) = %v, %d, want %v", keysText(t, sp.table), sp.at, m, got, e, out)
	}
	if here, e := steps.Here(sp.table, sp.at); e != api.OK || !slices.Contains(here, m) {
		t.Errorf("Here(%s, %d) = %v, %d", keysText(t, sp.table), sp.at, here, e)
	}
}

func wantUndone(t *testing.T, sp spread, m steps.Move) {
	t.Helper()
	if can, e := steps.Can(sp.table, sp.at, m); can || e != api.OK {
		t.Errorf("Can(%s, %d, %v) = %v, %d", keysText(t, sp.table), sp.at, m, can, e)
	}
	if got, e := steps.Do(sp.table, sp.at, m); len(got) != 0 || e != api.ErrStep {
		t.Errorf("Do(%s, %d, %v) = %v, %d", keysText(t, sp.table), sp.at, m, got, e)
	}
	if got, e := steps.Touched(sp.table, sp.at, m); len(got) != 0 || e != api.ErrStep {
		t.Errorf("Touched(%s, %d, %v) = %v, %d", keysText(t, sp.table), sp.at, m, got, e)
	}
	if here, e := steps.Here(sp.table, sp.at); e != api.OK || slices.Contains(here, m) {
		t.Errorf("Here(%s, %d) = %v, %d", keysText(t, sp.table), sp.at, here, e)
	}
}

// TestEachCondition: with one thing changed a move can't be done any more, or still can.
func TestEachCondition(t *testing.T) { // P18.1, P18.2
	for _, s := range sites() {
		for _, mirror := range []bool{false, true} {
			m := steps.Move{Kind: s.kind, Mirror: mirror && s.kind != steps.BLK && s.kind != steps.W7}
			x, _, _ := s.moved(t, mirror)
			turned := func(change string) string {
				if mirror {
					return mirrored(change)
				}
				return change
			}
			for _, change := range strings.Fields(s.breaking) {
				for _, sp := range spreads(t, changed(x, turned(change)).text()) {
					wantUndone(t, sp, m)
				}
			}
			for _, change := range strings.Fields(s.stayings) {
				for _, sp := range spreads(t, changed(x, turned(change)).text()) {
					if can, e := steps.Can(sp.table, sp.at, m); !can || e != api.OK {
						t.Errorf("with %s: Can(%s, %d, %v) = %v, %d", change, keysText(t, sp.table), sp.at, m, can, e)
					}
				}
			}
		}
	}
}

func TestROOT(t *testing.T) { // P18.1, P18.2
	root := steps.Move{Kind: steps.ROOT}
	for keys, want := range map[string]string{
		"(1:2=7)": "(1:1=7)", "(1:0=7)": "(1:1=7)", "(1:1000000=-7)": "(1:1=-7)",
		"(2:0 (1:0=7) (2:3=8))": "(2:1 (1:0=7) (2:3=8))", "(2:5 (1:0=7) (2:3=8))": "(2:1 (1:0=7) (2:3=8))",
	} {
		wantDone(t, spread{table: read(t, keys), at: 2}, root, want, []int{2})
	}
	for _, keys := range []string{"(1:1=7)", "(2:1 (1:0=7) (2:3=8))"} {
		wantUndone(t, spread{table: read(t, keys), at: 2}, root)
	}
	for _, at := range []int{3, 4} { // another weight than 1, and not the root of the keys
		wantUndone(t, spread{table: read(t, "(2:0 (1:0=7) (2:3=8))"), at: at}, root)
	}
}

func TestExamples(t *testing.T) { // P18.1, P18.2
	if here, e := steps.Here(read(t, "(4:1 (2:0 (1:1=0) (2:1=0)) (4:1=0))"), 2); len(here) != 0 || e != api.OK {
		t.Errorf("example 1: Here = %v, %d", here, e)
	}
	for _, c := range []struct {
		m          steps.Move
		keys, want string
		out        []int
	}{
		{steps.Move{Kind: steps.RB1}, "(6:1 (4:0 (2:0 (1:1=0) (2:1=0)) (4:1=0)) (6:1=0))", "(4:1 (2:0 (1:1=0) (2:1=0)) (6:0 (4:1=0) (6:1=0)))", []int{2, 3}},
		{steps.Move{Kind: steps.RB2}, "(6:1 (2:0 (1:1=0) (4:0 (2:1=0) (4:1=0))) (6:1=0))", "(4:1 (2:0 (1:1=0) (2:1=0)) (6:0 (4:1=0) (6:1=0)))", []int{2, 3, 5}},
		{steps.Move{Kind: steps.BLK}, "(3:1 (2:0 (1:0 (0:1=0) (1:1=0)) (2:1=0)) (4:0 (3:1=0) (4:1=0)))", "(3:1 (2:1 (1:0 (0:1=0) (1:1=0)) (2:1=0)) (4:1 (3:1=0) (4:1=0)))", []int{2, 3, 8}},
		{steps.Move{Kind: steps.PUSH}, "(2:1 (1:2=0) (4:1 (2:1=0) (4:1=0)))", "(2:1 (1:1=0) (4:0 (2:1=0) (4:1=0)))", []int{2, 3, 4}},
		{steps.Move{Kind: steps.PUSH, Mirror: true}, "(2:1 (4:1 (4:1=0) (2:1=0)) (1:2=0))", "(2:1 (4:0 (4:1=0) (2:1=0)) (1:1=0))", []int{2, 3, 6}},
		{steps.Move{Kind: steps.W7}, "(2:1 (1:2=0) (2:2=0))", "(2:1 (1:1=0) (2:1=0))", []int{2, 3, 4}},
		{steps.Move{Kind: steps.ROOT}, "(1:2=7)", "(1:1=7)", []int{2}},
	} {
		wantDone(t, spread{table: read(t, c.keys), at: 2}, c.m, c.want, c.out)
		if here, e := steps.Here(read(t, c.keys), 2); !slices.Equal(here, []steps.Move{c.m}) || e != api.OK {
			t.Errorf("Here(%s) = %v, %d", c.keys, here, e)
		}
	}
	wantUndone(t, spread{table: read(t, "(1:2=7)"), at: 2}, steps.Move{Kind: steps.BLK})
}
