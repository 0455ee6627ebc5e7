package snap_test

import (
	"math"
	"slices"
	"testing"

	"larch/api"
	"larch/baton"
	"larch/snap"
)

func TestMomentsByExample(t *testing.T) { // P11.2
	m := wantMoments(t, []int{0}, threads(ops(write(0, 3))), []int{0, 9, 0})
	if !sameRows(m, [][]int{{0}, {0}, {0}, {3}}) {
		t.Errorf("Moments = %v", m)
	}
	if l, e := snap.Between(m, snap.Ans{All: []int{3}, From: 0, To: 2}); !slices.Equal(l, []int{3}) || e != api.OK {
		t.Errorf("Between = %v, %d", l, e)
	}
}

func TestMomentsOfAllKinds(t *testing.T) { // P11.2
	m := wantMoments(t, []int{1, 2}, threads(ops(trade(0, 5), turn(1, 9, 8), turn(1, 2, 6), read(0), look, write(0, 1))), make([]int, 18))
	want := slices.Concat(slices.Repeat([][]int{{1, 2}}, 2), slices.Repeat([][]int{{5, 2}}, 5), slices.Repeat([][]int{{5, 6}}, 9), slices.Repeat([][]int{{1, 6}}, 3))
	if !sameRows(m, want) {
		t.Errorf("Moments = %v, want %v", m, want)
	}
	for _, c := range []struct {
		regs, picks []int
	}{{nil, nil}, {nil, []int{0, 0, 0}}, {[]int{4}, nil}, {[]int{4}, []int{}}, {[]int{4}, []int{0, 1, 2}}} {
		if m := wantMoments(t, c.regs, threads(ops(look)), c.picks); len(m) != len(c.picks)+1 {
			t.Errorf("Moments(%v, .., %v): %d rows", c.regs, c.picks, len(m))
		}
	}
}

// TestMomentsOfATurnThatFails: neither it nor a pending operation changes a row.
func TestMomentsOfATurnThatFails(t *testing.T) { // P11.2
	scripts := threads(ops(turn(0, 7, 8)), ops(turn(0, 7, 9), write(0, 5)))
	m := wantMoments(t, []int{7}, scripts, []int{0, 1, 0, 1, 0, 1, 1})
	if !sameRows(m, [][]int{{7}, {7}, {7}, {7}, {7}, {8}, {8}, {8}}) {
		t.Errorf("Moments = %v", m)
	}
}

func TestMomentsAtTheLimit(t *testing.T) { // P11.2
	picks, _ := baton.Robin(64, 157)
	scripts := make([][]snap.Op, api.MaxThreads)
	for i := range scripts {
		scripts[i] = slices.Repeat(ops(write(i, 1), trade(i, 2), turn(i, 2, 3)), 40)
	}
	m := wantMoments(t, make([]int, api.MaxCells), scripts, picks[:10000])
	if len(m) != 10001 {
		t.Errorf("%d rows", len(m))
	}
}

func TestBetweenOfAnyForm(t *testing.T) { // P11.2
	rows := [][]int{{1}, {1, 2}, nil, {}, {1, 2}, {2, 1}, {1, 2, 3}, {1, 2}}
	for _, c := range []struct {
		a    snap.Ans
		want []int
	}{
		{snap.Ans{All: []int{1, 2}, From: 0, To: 6}, []int{1, 4, 7}},
		{snap.Ans{All: []int{1, 2}, From: 1, To: 5}, []int{4}},
		{snap.Ans{All: []int{1, 2}, From: 3, To: 3}, []int{4}},
		{snap.Ans{All: []int{1, 2}, From: 1, To: 2}, nil},
		{snap.Ans{All: []int{1}, From: 0, To: 6}, nil}, // row 0 is ahead of the span
		{snap.Ans{From: 0, To: 6}, []int{2, 3}},
		{snap.Ans{All: []int{}, From: 2, To: 6}, []int{3}},
		{snap.Ans{All: []int{1, 2, 3}, From: 5, To: 6}, []int{6}},
		{snap.Ans{All: []int{1, 2, 3, 4}, From: 0, To: 6}, nil},
		{snap.Ans{Val: 99, Ok: false, All: []int{2, 1}, From: 4, To: 4}, []int{5}}, // whatever else it says
	} {
		if l, e := snap.Between(rows, c.a); !slices.Equal(l, c.want) || e != api.OK {
			t.Errorf("Between(.., %v) = %v, %d, want %v", c.a, l, e, c.want)
		}
	}
}

func TestBetweenThatIsRefused(t *testing.T) { // P11.2
	rows := [][]int{nil, nil, nil}
	for _, c := range []struct {
		rows     [][]int
		from, to int
		e        api.Errno
	}{
		{rows, 0, 0, api.OK}, {rows, 0, 1, api.OK}, {rows, 1, 1, api.OK},
		{rows, -1, 1, api.ErrArg}, {rows, math.MinInt, 0, api.ErrArg}, {rows, math.MinInt, math.MaxInt, api.ErrArg}, {rows, -1, -1, api.ErrArg},
		{rows, 1, 0, api.ErrArg}, {rows, 0, -1, api.ErrArg}, {rows, 0, math.MinInt, api.ErrArg}, {rows, math.MaxInt, 0, api.ErrArg},
		{rows, 0, 2, api.ErrArg}, {rows, 2, 2, api.ErrArg}, {rows, 0, math.MaxInt, api.ErrArg}, {rows, math.MaxInt, math.MaxInt, api.ErrArg},
		{nil, 0, 0, api.ErrArg}, {nil, 0, -1, api.ErrArg}, {rows[:1], 0, 0, api.ErrArg}, {rows[:2], 0, 0, api.OK},
	} {
		l, e := snap.Between(c.rows, snap.Ans{From: c.from, To: c.to})
		if e != c.e || e != api.OK && l != nil {
			t.Errorf("Between(%v, from %d to %d) = %v, %d, want %d", c.rows, c.from, c.to, l, e, c.e)
		}
	}
}
