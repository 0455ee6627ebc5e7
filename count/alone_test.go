package count_test

import (
	"math"
	"math/rand"
	"slices"
	"testing"

	"larch/api"
	"larch/count"
)

// wantAlone: Alone against the machine with enough picks; a machine that doesn't end tries a lock for ever.
func wantAlone(t *testing.T, cells []int, script []count.Op) {
	t.Helper()
	m := newMachine(cells, threads(script))
	for enough := len(script) * (5 + len(cells)); enough > 0 && !m.allEnded(); enough-- {
		m.pick(0)
	}
	want, then, e := m.threads[0].answers, m.cells, api.OK
	if !m.allEnded() {
		want, then, e = nil, nil, api.ErrArg
	}
	got, gotThen, gotE := count.Alone(cells, script)
	if !slices.Equal(got, want) || !slices.Equal(gotThen, then) || gotE != e {
		t.Fatalf("Alone(%v, %v) = %v, %v, %d, want %v, %v, %d", cells, script, got, gotThen, gotE, want, then, e)
	}
	if e != api.OK {
		if got != nil || gotThen != nil {
			t.Fatalf("Alone(%v, %v) answers beside an error: %v, %v", cells, script, got, gotThen)
		}
		return
	}
	d, _ := count.Run(cells, threads(script), make([]int, len(m.steps)+3))
	if !slices.Equal(d.Answers[0], got) || !slices.Equal(d.Cells, gotThen) {
		t.Fatalf("Alone(%v, %v) = %v, %v, but Run answers %v", cells, script, got, gotThen, d)
	}
}

func TestAloneByExamples(t *testing.T) { // P8.2
	take, locked := count.Op{Kind: count.Take}, count.Op{Kind: count.Locked, A: 1}
	for _, c := range []struct {
		cells  []int
		script []count.Op
		want   []count.Ans
		then   []int
		e      api.Errno
	}{
		{[]int{5}, ops(count.Op{Kind: count.Top, A: 3}, count.Op{Kind: count.Top, A: 9}, take), []count.Ans{{Val: 5, From: 0, To: 1}, {Val: 9, Ok: true, From: 2, To: 4}, {Val: 8, Ok: true, From: 5, To: 7}}, []int{8}, api.OK},
		{[]int{0}, ops(take), []count.Ans{{From: 0, To: 1}}, []int{0}, api.OK},
		{nil, ops(count.Op{Kind: count.Sum}), []count.Ans{{Ok: true}}, nil, api.OK},
		{[]int{9223372036854775807}, ops(count.Op{Kind: count.Plus, A: 1}), []count.Ans{{Val: -9223372036854775808, Ok: true, From: 0, To: 1}}, []int{-9223372036854775808}, api.OK},
		{[]int{1, 0}, ops(locked), nil, nil, api.ErrArg},
	} {
		got, then, e := count.Alone(c.cells, c.script)
		if !slices.Equal(got, c.want) || !slices.Equal(then, c.then) || e != c.e {
			t.Errorf("Alone(%v, %v) = %v, %v, %d", c.cells, c.script, got, then, e)
		}
	}
}

func TestAloneOfAllKindsAndNumbers(t *testing.T) { // P8.2
	for _, held := range edges {
		for _, a := range edges {
			for kind := count.Inc; kind <= count.Sum; kind++ {
				wantAlone(t, []int{held, 4}, ops(count.Op{Kind: kind, A: a}, count.Op{Kind: kind, A: a}))
			}
		}
		wantAlone(t, []int{0, held}, ops(count.Op{Kind: count.Locked, At: 0, A: 1}))
		wantAlone(t, []int{held, 0}, ops(count.Op{Kind: count.Locked, At: 0, A: 1}))
	}
}

func TestAloneByChance(t *testing.T) { // P8.2
	r := rand.New(rand.NewSource(2))
	for range 2000 {
		cells := someCells(r, 2+r.Intn(3))
		wantAlone(t, cells, slices.Concat(someScripts(r, 3, 3, len(cells))...))
	}
	wantAlone(t, []int{3}, nil)
	wantAlone(t, nil, ops())
	wantAlone(t, make([]int, api.MaxCells), times(api.MaxOps, count.Op{Kind: count.Sum}))
}

// TestAloneWithALockThatIsHeld: what counts is what its cell holds when the operation begins.
func TestAloneWithALockThatIsHeld(t *testing.T) { // P8.2
	locked, up, down := count.Op{Kind: count.Locked, A: 1}, count.Op{Kind: count.Plus, A: 1}, count.Op{Kind: count.Plus, A: -1}
	for _, c := range []struct {
		first  int
		script []count.Op
		e      api.Errno
	}{
		{0, ops(locked, locked), api.OK}, {1, ops(down, locked), api.OK}, {0, ops(up, locked), api.ErrArg}, {0, ops(locked, up, locked), api.ErrArg}, {0, ops(up, down, locked), api.OK},
		{2, ops(locked), api.ErrArg}, {-1, ops(locked), api.ErrArg}, {math.MinInt, ops(locked), api.ErrArg}, {1, ops(up), api.OK},
		{0, ops(count.Op{Kind: count.Locked, At: 1, A: 0}, locked), api.ErrArg}, // the other lock counts this one up
	} {
		if _, _, e := count.Alone([]int{c.first, 0}, c.script); e != c.e {
			t.Errorf("Alone((%d, 0), %v): %d, want %d", c.first, c.script, e, c.e)
		}
		wantAlone(t, []int{c.first, 0}, c.script)
	}
}

func TestAloneThatIsRefused(t *testing.T) { // P8.2
	for name, c := range refusals() {
		if len(c.scripts) != 1 {
			continue
		}
		got, then, e := count.Alone(c.cells, c.scripts[0])
		if e != c.e || e != api.OK && (got != nil || then != nil) {
			t.Errorf("%s: Alone = %v, %v, %d, want %d", name, got, then, e, c.e)
		}
	}
	held, bad := count.Op{Kind: count.Locked, A: 1}, count.Op{Kind: 9}
	if _, _, e := count.Alone([]int{1, 0}, ops(held, bad)); e != api.ErrKind {
		t.Errorf("a bad operation behind a lock that is held: %d", e)
	}
}
