package seq_test

import (
	"math"
	"math/rand"
	"slices"
	"testing"

	"larch/api"
	"larch/model"
	"larch/seq"
	"larch/steps"
	"larch/table"
	"larch/weigh"
)

// TestAnswersAreFit: and numbered from the root on.
func TestAnswersAreFit(t *testing.T) { // P19.2
	r := rand.New(rand.NewSource(11))
	wantFit := func(n []api.Node, e api.Errno) {
		t.Helper()
		norm, _ := table.Norm(n)
		if e != api.OK || seq.Check(n) != api.OK || !slices.Equal(n, norm) {
			t.Fatalf("the answer %v, %d: %d", n, e, seq.Check(n))
		}
	}
	for range 3000 {
		leaves := r.Intn(14)
		n, _ := shuffled(r, someFit(r, 0, leaves).table())
		o := someOp(r, leaves)
		a, _, _, e := seq.Change(n, o)
		wantFit(a, e)
		a, _, _, e = seq.Do(n, o)
		wantFit(a, e)
		a, _, _, e = seq.Clean(n, o.Key, r.Intn(9))
		wantFit(a, e)
		a, _, _, e = seq.Run(n, someOps(r, r.Intn(5), leaves))
		wantFit(a, e)
	}
}

// TestDoIsTheModel: what it answers, and the pairs behind it; keys at both ends of the whole numbers too.
func TestDoIsTheModel(t *testing.T) { // P19.3
	r := rand.New(rand.NewSource(12))
	keys := []int{math.MinInt, math.MinInt + 1, -2, -1, 0, 1, 2, 3, 4, 5, math.MaxInt - 1, math.MaxInt}
	for range 60 {
		n := table.Empty()
		for range 60 {
			o := api.Op{Kind: 1 + r.Intn(9), Key: keys[r.Intn(len(keys))], Val: r.Int(), Hi: keys[r.Intn(len(keys))]}
			before, _ := table.Pairs(n)
			m, ret, _ := model.Do(before, o)
			then, answer, _, e := seq.Do(n, o)
			behind, _ := table.Pairs(then)
			if e != api.OK || !model.SameRet(answer, ret) || !model.Same(behind, m) {
				t.Fatalf("Do(%v, %v) = %v, %v, %d, want %v, %v", n, o, behind, answer, e, m, ret)
			}
			n = then
		}
	}
}

// wantBalanced: no violation, and low.
func wantBalanced(t *testing.T, n []api.Node) {
	t.Helper()
	violations, e := weigh.Violations(n)
	fits, _ := weigh.Fits(n)
	if violations != 0 || e != api.OK || !fits {
		t.Fatalf("%v: %d violations, %d, fits %v", n, violations, e, fits)
	}
}

func TestNothingIsLeft(t *testing.T) { // P19.4
	r := rand.New(rand.NewSource(13))
	for _, keys := range []int{1, 3, 10, 40, 200} {
		for range 10 {
			n := table.Empty()
			for range 8 {
				var e api.Errno
				n, _, _, e = seq.Run(n, someOps(r, r.Intn(100), keys))
				if e != api.OK {
					t.Fatalf("Run: %d", e)
				}
				wantBalanced(t, n)
			}
		}
	}
	rows := map[string]func(i int) int{
		"rising":  func(i int) int { return i },
		"falling": func(i int) int { return -i },
		"inwards": func(i int) int { return []int{i, 10000 - i}[i%2] },
		"spread":  func(i int) int { return i * 7919 % 2003 },
	}
	for name, key := range rows {
		var list []api.Pair
		for i := range 1000 {
			list = append(list, api.Pair{Key: key(i), Val: i})
		}
		n, e := seq.Of(list)
		if e != api.OK {
			t.Fatalf("%s: %d", name, e)
		}
		wantBalanced(t, n)
		for _, from := range []int{0, 300} { // and taken away again, from both ends
			var ops []api.Op
			for i := range 700 {
				ops = append(ops, del(key(i+from)))
			}
			then, _, _, e := seq.Run(n, ops)
			if e != api.OK {
				t.Fatalf("%s: %d", name, e)
			}
			wantBalanced(t, then)
		}
	}
}

// TestNothingIsLeftOfAll: all rows of up to six puts and deletes of four keys.
func TestNothingIsLeftOfAll(t *testing.T) { // P19.4
	var further func(n []api.Node, left int)
	further = func(n []api.Node, left int) {
		wantBalanced(t, n)
		if left == 0 {
			return
		}
		for key := range 4 {
			for _, o := range []api.Op{put(key, left), del(key)} {
				then, _, _, e := seq.Do(n, o)
				if e != api.OK {
					t.Fatalf("Do(%v, %v): %d", n, o, e)
				}
				if !slices.Equal(then, n) {
					further(then, left-1)
				}
			}
		}
	}
	further(table.Empty(), 6)
}

// TestEachStepLessens: or it is BLK or PUSH, nearer to the root than the violation.
func TestEachStepLessens(t *testing.T) { // P19.5
	r := rand.New(rand.NewSource(14))
	same := map[int]int{}
	for range 4000 {
		leaves := 1 + r.Intn(20)
		n := someFit(r, 0, leaves).table()
		key := r.Intn(2 * leaves)
		before, _ := table.Pairs(n)
		for {
			first, _ := weigh.First(n, key)
			had, _ := weigh.Violations(n)
			then, turns, clean, e := seq.Clean(n, key, 1)
			if e != api.OK || clean && len(turns) == 0 {
				break
			}
			has, _ := weigh.Violations(then)
			pairs, _ := table.Pairs(then)
			if !slices.Equal(pairs, before) || has > had || len(turns) != 1 {
				t.Fatalf("Clean(%v, %d, 1) = %v, %v: %d violations, were %d", n, key, then, turns, has, had)
			}
			if has == had {
				kind := turns[0].Move.Kind
				same[kind]++
				if kind != steps.BLK && kind != steps.PUSH || !isAbove(n, turns[0].At, first) {
					t.Fatalf("Clean(%v, %d, 1): %v lessens nothing; the violation is at %d", n, key, turns, first)
				}
			}
			n = then
		}
	}
	if same[steps.BLK] < 100 || same[steps.PUSH] < 100 {
		t.Errorf("the test sees too little: %v", same)
	}
}

// isAbove: does the first place stand above the second one?
func isAbove(n []api.Node, above, place int) bool {
	up, _ := table.Parents(n)
	for place = up[place]; place != -1; place = up[place] {
		if place == above {
			return true
		}
	}
	return false
}
