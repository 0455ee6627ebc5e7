package seq_test

import (
	"math/bits"
	"slices"
	"strconv"
	"testing"

	"larch/api"
	"larch/model"
	"larch/seq"
	"larch/steps"
	"larch/table"
	"larch/weigh"
)

func TestLimitsOfThePackage(t *testing.T) { // P19.2
	if seq.MaxTurns != 10000 || seq.MaxRun != 10000 {
		t.Errorf("MaxTurns = %d, MaxRun = %d", seq.MaxTurns, seq.MaxRun)
	}
}

// twoHeavy: a root over two leaves of that weight: W7 takes one away of both.
func twoHeavy(t *testing.T, weight int) []api.Node {
	t.Helper()
	w := strconv.Itoa(weight)
	return read(t, "(2:1 (1:"+w+"=10) (2:"+w+"=20))")
}

func TestCleanAtMaxTurns(t *testing.T) { // P19.2
	for _, c := range []struct {
		weight, most, left int
		clean              bool
	}{
		{seq.MaxTurns, seq.MaxTurns, 1, true}, {seq.MaxTurns + 1, seq.MaxTurns, 1, true}, {seq.MaxTurns + 2, seq.MaxTurns, 2, false}, {seq.MaxTurns + 1, seq.MaxTurns - 1, 2, false}, {api.MaxWeight, seq.MaxTurns, api.MaxWeight - seq.MaxTurns, false},
	} {
		n, turns, clean, e := seq.Clean(twoHeavy(t, c.weight), 2, c.most)
		if !slices.Equal(n, twoHeavy(t, c.left)) || len(turns) != c.weight-c.left || clean != c.clean || e != api.OK {
			t.Errorf("Clean of two leaves of weight %d: %v, %d steps, %v, %d", c.weight, n, len(turns), clean, e)
		}
		if slices.ContainsFunc(turns, func(u seq.Turn) bool { return u != turn(2, steps.W7, false) }) {
			t.Errorf("Clean of two leaves of weight %d does another step", c.weight)
		}
	}
}

// TestDoAtMaxTurns: an insert at a leaf of weight w makes an inner node of w - 1, beside a leaf of w.
func TestDoAtMaxTurns(t *testing.T) { // P19.2
	most := twoHeavy(t, seq.MaxTurns+2)
	n, ret, turns, e := seq.Do(most, put(0, 5))
	if !slices.Equal(n, read(t, "(2:1 (1:1 (0:1=5) (1:1=10)) (2:2=20))")) || !model.SameRet(ret, api.Ret{}) || len(turns) != seq.MaxTurns || e != api.OK {
		t.Errorf("Do: %v, %v, %d steps, %d", n, ret, len(turns), e)
	}
	n, rets, many, e := seq.Run(most, []api.Op{put(1, 11), put(0, 5), put(-1, 5)})
	if len(n) != 11 || len(rets) != 3 || !slices.Equal(many, []int{0, seq.MaxTurns, 0}) || e != api.OK {
		t.Errorf("Run: %v, %v, %v, %d", n, rets, many, e)
	}
	more := twoHeavy(t, seq.MaxTurns+3)
	if n, ret, turns, e := seq.Do(more, put(0, 5)); len(n)+len(turns)+ret.Val != 0 || ret.Ok || e != api.ErrBig {
		t.Errorf("Do of a step more: %v, %v, %d steps, %d", n, ret, len(turns), e)
	}
	if n, rets, many, e := seq.Run(more, []api.Op{put(1, 11), put(0, 5), put(-1, 5)}); len(n)+len(rets)+len(many) != 0 || e != api.ErrBig {
		t.Errorf("Run of a step more: %v, %v, %v, %d", n, rets, many, e)
	}
	if n, _, dirty, e := seq.Change(more, put(0, 5)); len(n) != 9 || !dirty || e != api.OK {
		t.Errorf("Change alone: %v, %v, %d", n, dirty, e)
	}
	if n, ret, turns, e := seq.Do(more, put(1, 5)); len(n) != 7 || ret.Val != 10 || len(turns) != 0 || e != api.OK {
		t.Errorf("a Put that brings no key: %v, %v, %v, %d", n, ret, turns, e)
	}
}

// TestTooHeavy: a Delete whose sibling gets more than MaxWeight; but not, where it becomes the root of the keys.
func TestTooHeavy(t *testing.T) { // P19.2
	side := func(weight, key int) *tree {
		return inner(key+1, weight, leaf(key, 1, 0), leaf(key+1, 1, 0))
	}
	for _, c := range []struct {
		weight int
		e      api.Errno
	}{{api.MaxWeight, api.ErrBig}, {api.MaxWeight - 1, api.OK}} {
		n := inner(5, 1, side(c.weight, 1), side(c.weight, 5)).table()
		for _, key := range []int{1, 2, 5, 6} {
			got, ret, dirty, e := seq.Change(n, del(key))
			if e != c.e || e != api.OK && (len(got) != 0 || ret.Ok || dirty) {
				t.Errorf("Change: %v, %v, %v, %d, want %d", got, ret, dirty, e, c.e)
			}
			if e == api.OK && (seq.Check(got) != api.OK || !slices.ContainsFunc(got, func(n api.Node) bool { return n.Weight == api.MaxWeight })) {
				t.Errorf("Change: %v", got)
			}
			for _, ops := range [][]api.Op{{del(key)}, {put(key, 3), del(key)}, {del(9), del(key), put(9, 9)}} { // both errors: too heavy, or too many steps
				if got, rets, many, e := seq.Run(n, ops); len(got)+len(rets)+len(many) != 0 || e != api.ErrBig {
					t.Errorf("Run: %v, %v, %v, %d", got, rets, many, e)
				}
			}
		}
	}
	n := inner(2, 1, leaf(1, api.MaxWeight, 0), leaf(2, api.MaxWeight, 0)).table()
	if got, _, turns, e := seq.Do(n, del(2)); !slices.Equal(got, read(t, "(1:1=0)")) || len(turns) != 0 || e != api.OK {
		t.Errorf("Do(.., Delete 2) = %v, %v, %d", got, turns, e)
	}
}

// mostKeys: as many as a table can have below its crown: a tree of k keys has 2 k - 1 nodes, the crown four.
const mostKeys = (api.MaxNodes - 1 - 3) / 2

func TestTooManyNodes(t *testing.T) { // P19.2
	full := evenTree(0, mostKeys, bits.Len(mostKeys)).table()
	if len(full) != api.MaxNodes-1 || seq.Check(full) != api.OK {
		t.Fatalf("%d nodes: %d", len(full), seq.Check(full))
	}
	for _, o := range []api.Op{put(-1, 0), absent(mostKeys, 0)} {
		if n, ret, dirty, e := seq.Change(full, o); len(n)+ret.Val != 0 || ret.Ok || dirty || e != api.ErrBig {
			t.Errorf("Change(.., %v): %d nodes, %v, %v, %d", o, len(n), ret, dirty, e)
		}
		if n, ret, turns, e := seq.Do(full, o); len(n)+ret.Val+len(turns) != 0 || ret.Ok || e != api.ErrBig {
			t.Errorf("Do(.., %v): %d nodes, %v, %v, %d", o, len(n), ret, turns, e)
		}
		if n, rets, many, e := seq.Run(full, []api.Op{put(5, 5), o, del(5)}); len(n)+len(rets)+len(many) != 0 || e != api.ErrBig {
			t.Errorf("Run(.., %v): %d nodes, %v, %v, %d", o, len(n), rets, many, e)
		}
		if n, rets, many, e := seq.Run(full, []api.Op{o, {Kind: 10}}); len(n)+len(rets)+len(many) != 0 || e != api.ErrKind { // ahead of all doing
			t.Errorf("Run(.., %v, no kind): %d nodes, %v, %v, %d", o, len(n), rets, many, e)
		}
		n, _, _, e := seq.Run(full, []api.Op{del(7), o, put(5, 5), {Kind: api.Get, Key: 5}})
		if len(n) != len(full) || e != api.OK || seq.Check(n) != api.OK {
			t.Errorf("Run(.., Delete, %v): %d nodes, %d", o, len(n), e)
		}
		wantBalanced(t, n)
		if n, _, _, e := seq.Change(full, api.Op{Kind: o.Kind, Key: 5}); len(n) != len(full) || e != api.OK {
			t.Errorf("a key that is there: %d nodes, %d", len(n), e)
		}
	}
}

func TestRunAtMaxRun(t *testing.T) { // P19.2, P19.4
	list := make([]api.Pair, seq.MaxRun)
	ops := make([]api.Op, seq.MaxRun)
	for i := range list {
		list[i] = api.Pair{Key: i, Val: -i}
		ops[i] = put(i, -i)
	}
	want, e := seq.Of(list)
	if got, _ := table.Pairs(want); !slices.Equal(got, list) || e != api.OK {
		t.Errorf("Of MaxRun pairs: %d", e)
	}
	wantBalanced(t, want)
	n, rets, many, e := seq.Run(table.Empty(), ops)
	if !slices.Equal(n, want) || len(rets) != len(ops) || len(many) != len(ops) || e != api.OK {
		t.Errorf("Run of MaxRun operations: %d", e)
	}
	if n, e := seq.Of(append(list, api.Pair{})); len(n) != 0 || e != api.ErrBig {
		t.Errorf("Of a pair more: %d nodes, %d", len(n), e)
	}
	for _, kind := range []int{api.Get, 0} { // ErrBig comes ahead of ErrKind
		if n, rets, many, e := seq.Run(want, append(ops, api.Op{Kind: kind})); len(n)+len(rets)+len(many) != 0 || e != api.ErrBig {
			t.Errorf("Run of an operation more: %d nodes, %d", len(n), e)
		}
	}
	for i := range ops {
		ops[i] = del(i)
	}
	if n, _, _, e := seq.Run(want, ops); !slices.Equal(n, table.Empty()) || e != api.OK {
		t.Errorf("all deleted: %d nodes, %d", len(n), e)
	}
}

// leaning: a fit tree of as many keys as there can be, each with a leaf on its left, or on its right; weighing gives the inner nodes' weights, and the leaves have what is left of sum.
func leaning(toRight bool, sum int, weighing func(i int) int) []api.Node {
	t := []api.Node{inf(1, 0), inf(2, 0)}
	var rights []int // places whose right child comes behind all else
	left := sum - 1
	for i := range mostKeys - 1 {
		place := len(t)
		weight := 1
		if i > 0 {
			weight = weighing(i)
			left -= weight
		}
		n := api.Node{Key: i + 1, Weight: weight, Left: place + 1, Right: place + 2}
		if !toRight {
			n.Key = mostKeys - 1 - i
			rights = append(rights, place)
			t = append(t, n)
			continue
		}
		t = append(t, n, api.Node{Key: i, Weight: left, Left: -1, Right: -1})
	}
	last := api.Node{Key: mostKeys - 1, Weight: left, Left: -1, Right: -1}
	if !toRight {
		last.Key = 0
	}
	t = append(t, last)
	for i := len(rights) - 1; i >= 0; i-- {
		up := &t[rights[i]]
		up.Right = len(t)
		t = append(t, api.Node{Key: up.Key, Weight: left, Left: -1, Right: -1})
		left += up.Weight
	}
	t[1].Right, t[0].Right = len(t), len(t)+1
	return append(t, inf(-1, -1), inf(-1, -1))
}

// TestDeepTrees: as deep as they can be, red from the root on, or heavy.
func TestDeepTrees(t *testing.T) { // P19.1, P19.2
	for name, c := range map[string]struct {
		n     []api.Node
		key   int // at the end of the longest path
		first int // the step's place
		m     steps.Move
	}{
		"red, to the right":   {leaning(true, 2, func(int) int { return 0 }), mostKeys, 2, move(steps.RB1, true)},
		"red, to the left":    {leaning(false, 2, func(int) int { return 0 }), -1, 2, move(steps.RB1, false)},
		"heavy, to the right": {leaning(true, mostKeys+1, func(int) int { return 1 }), mostKeys, 2 + 2*(mostKeys-2), move(steps.W7, false)},
		"heavy, to the left":  {leaning(false, mostKeys+1, func(int) int { return 1 }), -1, 2 + mostKeys - 2, move(steps.W7, false)},
	} {
		if len(c.n) != api.MaxNodes-1 || seq.Check(c.n) != api.OK {
			t.Fatalf("%s: %d nodes, %d", name, len(c.n), seq.Check(c.n))
		}
		if at, m, e := seq.Next(c.n, c.key); at != c.first || m != c.m || e != api.OK {
			t.Errorf("%s: Next = %d, %v, %d", name, at, m, e)
		}
		had, _ := weigh.Violations(c.n)
		n, turns, clean, e := seq.Clean(c.n, c.key, 300)
		has, _ := weigh.Violations(n)
		if e != api.OK || len(turns) != 300 && !clean || turns[0] != (seq.Turn{At: c.first, Move: c.m}) || seq.Check(n) != api.OK || has >= had {
			t.Errorf("%s: Clean: %d steps, %v, %d", name, len(turns), clean, e)
		}
		if n, ret, dirty, e := seq.Change(c.n, del(0)); len(n) != len(c.n)-2 || !ret.Ok || !dirty || e != api.OK || seq.Check(n) != api.OK {
			t.Errorf("%s: Change: %d nodes, %v, %v, %d", name, len(n), ret, dirty, e)
		}
	}
}
