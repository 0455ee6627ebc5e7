package cell_test

import (
	"fmt"
	"math"
	"math/rand"
	"slices"
	"testing"

	"larch/api"
	"larch/cell"
)

// numStep: what the chapter says of one act on a number that holds v: what it holds then, and the answer.
func numStep(v int, a cell.Act) (int, int) {
	switch a.Kind {
	case api.Load:
		return v, v
	case api.Store:
		return a.A, 0
	case api.Add:
		return v + a.A, v + a.A
	case api.Swap:
		return a.A, v
	case api.And:
		return v & a.A, v
	case api.Or:
		return v | a.A, v
	}
	if v == a.A {
		return a.B, 1
	}
	return v, 0
}

func truth(n int) int {
	if n != 0 {
		return 1
	}
	return 0
}

// played: the acts by numStep: answers, what is held then, the kinds.
func played(cells []int, acts []cell.Act) (answers, held, kinds []int) {
	held = slices.Clone(cells)
	for _, a := range acts {
		var answer int
		held[a.At], answer = numStep(held[a.At], a)
		answers, kinds = append(answers, answer), append(kinds, a.Kind)
	}
	return answers, held, kinds
}

func bools(list []int) []bool {
	out := make([]bool, len(list))
	for i, n := range list {
		out[i] = n != 0
	}
	return out
}

func checkNums(t *testing.T, cells []int, acts []cell.Act) {
	t.Helper()
	answers, held, kinds := played(cells, acts)
	a, h, k, e := cell.Nums(cells, acts)
	if !slices.Equal(a, answers) || !slices.Equal(h, held) || !slices.Equal(k, kinds) || e != api.OK {
		t.Errorf("Nums(%v, %v) = %v, %v, %v, %d", cells, acts, a, h, k, e)
	}
}

// checkIds: by numbers, a cell with things goes as a number does, of these kinds.
func checkIds(t *testing.T, cells []int, things int, acts []cell.Act) {
	t.Helper()
	answers, held, kinds := played(cells, acts)
	a, h, k, e := cell.Ids(cells, things, acts)
	if !slices.Equal(a, answers) || !slices.Equal(h, held) || !slices.Equal(k, kinds) || e != api.OK {
		t.Errorf("Ids(%v, %d, %v) = %v, %v, %v, %d", cells, things, acts, a, h, k, e)
	}
}

func checkMarks(t *testing.T, cells []int, acts []cell.Act) {
	t.Helper()
	plain := slices.Clone(acts)
	for i, a := range acts {
		plain[i].A, plain[i].B = truth(a.A), truth(a.B)
	}
	answers, held, kinds := played(cells, plain)
	a, h, k, e := cell.Marks(bools(cells), acts)
	if !slices.Equal(a, bools(answers)) || !slices.Equal(h, bools(held)) || !slices.Equal(k, kinds) || e != api.OK {
		t.Errorf("Marks(%v, %v) = %v, %v, %v, %d", cells, acts, a, h, k, e)
	}
}

func TestActsByExamples(t *testing.T) { // P2.1
	a, h, k, e := cell.Nums([]int{5}, []cell.Act{{Kind: api.Load}, {Kind: api.Add, A: 3}, {Kind: api.Cas, A: 5, B: 9}, {Kind: api.Cas, A: 8, B: 9}, {Kind: api.Swap, A: 1}, {Kind: api.Load}})
	if fmt.Sprint(a, h, k, e) != "[5 8 0 1 9 1] [1] [1 3 5 5 4 1] 0" {
		t.Error("example 1:", a, h, k, e)
	}
	a, h, k, e = cell.Nums([]int{6}, []cell.Act{{Kind: api.And, A: 3}, {Kind: api.Or, A: 8}})
	if fmt.Sprint(a, h, k, e) != "[6 2] [10] [6 7] 0" {
		t.Error("example 2:", a, h, k, e)
	}
	a, h, k, e = cell.Nums([]int{math.MaxInt}, []cell.Act{{Kind: api.Add, A: 1}})
	if fmt.Sprint(a, h, k, e) != "[-9223372036854775808] [-9223372036854775808] [3] 0" {
		t.Error("example 2, the second:", a, h, k, e)
	}
	a, h, k, e = cell.Ids([]int{-1, 0}, 2, []cell.Act{{Kind: api.Cas, A: -1, B: 1}, {Kind: api.Cas, At: 1, A: 1, B: -1}, {Kind: api.Swap, At: 1, A: 1}, {Kind: api.Load}, {Kind: api.Load, At: 1}})
	if fmt.Sprint(a, h, k, e) != "[1 0 0 1 1] [1 1] [5 5 4 1 1] 0" {
		t.Error("example 3:", a, h, k, e)
	}
	b, now, k, e := cell.Marks([]bool{false}, []cell.Act{{Kind: api.Cas, B: 1}, {Kind: api.Cas, B: 1}, {Kind: api.Swap}, {Kind: api.Load}})
	if fmt.Sprint(b, now, k, e) != "[true false true false] [false] [5 5 4 1] 0" {
		t.Error("example 4:", b, now, k, e)
	}
}

func TestActsByChance(t *testing.T) { // P2.1
	r := rand.New(rand.NewSource(1))
	numbers := []int{math.MinInt, -2, -1, 0, 1, 2, 3, 12, 1 << 32, math.MaxInt}
	fewKinds := []int{api.Load, api.Store, api.Swap, api.Cas}
	for range 300 {
		cells := make([]int, 1+r.Intn(4))
		for i := range cells {
			cells[i] = numbers[r.Intn(len(numbers))]
		}
		acts := make([]cell.Act, r.Intn(60))
		for i := range acts {
			acts[i] = cell.Act{Kind: 1 + r.Intn(7), At: r.Intn(len(cells)), A: numbers[r.Intn(len(numbers))], B: numbers[r.Intn(len(numbers))]}
		}
		checkNums(t, cells, acts)
		for i := range acts {
			acts[i].Kind = fewKinds[r.Intn(len(fewKinds))]
			acts[i].A = []int{0, 0, 1, -5, math.MinInt}[r.Intn(5)]
		}
		for i := range cells {
			cells[i] = truth(cells[i] + 1)
		}
		checkMarks(t, cells, acts)
		things := r.Intn(4)
		for i := range acts {
			acts[i].A, acts[i].B = r.Intn(things+1)-1, r.Intn(things+1)-1
		}
		for i := range cells {
			cells[i] = r.Intn(things+1) - 1
		}
		checkIds(t, cells, things, acts)
	}
}

func TestActsAtTheLimits(t *testing.T) { // P2.1
	cells := make([]int, api.MaxCells)
	acts := make([]cell.Act, api.MaxOps)
	for i := range acts {
		acts[i] = cell.Act{Kind: api.Swap, At: i % len(cells), A: i % 64}
	}
	checkNums(t, cells, acts)
	checkMarks(t, cells, acts)
	checkIds(t, cells, 64, acts)
	for _, none := range [][]int{nil, {}, {0}} {
		checkNums(t, none, nil)
		checkMarks(t, none, []cell.Act{})
		checkIds(t, none, 1, nil)
	}
	checkIds(t, []int{-1}, 0, []cell.Act{{Kind: api.Load}, {Kind: api.Store, A: -1}, {Kind: api.Cas, A: -1, B: -1}, {Kind: api.Swap, A: -1}})
	checkIds(t, []int{0}, 1, []cell.Act{{Kind: api.Load, A: 9, B: -9}, {Kind: api.Store, A: 0, B: 9}, {Kind: api.Swap, A: -1, B: -9}}) // what doesn't count may be anything
}

func TestNumsThatAreRefused(t *testing.T) { // P2.1
	one, ok := []int{1}, cell.Act{Kind: api.Load}
	cases := []struct {
		cells []int
		acts  []cell.Act
		e     api.Errno
	}{
		{make([]int, api.MaxCells+1), nil, api.ErrBig}, {make([]int, api.MaxCells+1), []cell.Act{{Kind: 9}}, api.ErrBig},
		{one, make([]cell.Act, api.MaxOps+1), api.ErrBig}, {nil, []cell.Act{ok}, api.ErrArg}, {one, []cell.Act{{Kind: 9}}, api.ErrKind},
		{one, []cell.Act{ok, {Kind: 9, At: 7}}, api.ErrKind}, {one, []cell.Act{{Kind: 0}}, api.ErrKind}, {one, []cell.Act{{Kind: 8}}, api.ErrKind}, {one, []cell.Act{{Kind: -1}}, api.ErrKind},
		{one, []cell.Act{ok, {Kind: api.Add, At: 1}}, api.ErrArg}, {one, []cell.Act{{Kind: api.Add, At: -1}}, api.ErrArg}, {one, []cell.Act{{Kind: api.Add, At: math.MinInt}}, api.ErrArg},
		{one, []cell.Act{{Kind: api.Or, At: 1}, {Kind: 9}}, api.ErrArg}, {one, []cell.Act{{Kind: 9}, {Kind: api.Or, At: 1}}, api.ErrKind},
	}
	for _, c := range cases {
		a, h, k, e := cell.Nums(c.cells, c.acts)
		if e != c.e || len(a)+len(h)+len(k) != 0 {
			t.Errorf("Nums(%v, %v) = %v, %v, %v, %d, want %d", c.cells, c.acts, a, h, k, e, c.e)
		}
	}
}

func TestIdsThatAreRefused(t *testing.T) { // P2.1
	one, ok := []int{0}, cell.Act{Kind: api.Load}
	cases := []struct {
		cells  []int
		things int
		acts   []cell.Act
		e      api.Errno
	}{
		{make([]int, api.MaxCells+1), -1, nil, api.ErrBig}, {[]int{99}, 65, nil, api.ErrBig}, {one, math.MaxInt, nil, api.ErrBig}, {one, -1, make([]cell.Act, api.MaxOps+1), api.ErrBig},
		{nil, -1, nil, api.ErrArg}, {nil, math.MinInt, nil, api.ErrArg}, {[]int{2}, 2, nil, api.ErrArg}, {[]int{0, -2}, 2, nil, api.ErrArg}, {[]int{0}, 0, nil, api.ErrArg},
		{[]int{2}, 2, []cell.Act{{Kind: 9}}, api.ErrArg},
		{one, 1, []cell.Act{{Kind: api.Add, A: 1}}, api.ErrKind}, {one, 1, []cell.Act{{Kind: api.And}}, api.ErrKind}, {one, 1, []cell.Act{{Kind: api.Or}}, api.ErrKind},
		{one, 1, []cell.Act{{Kind: 0}}, api.ErrKind}, {one, 1, []cell.Act{ok, {Kind: 8, At: 5}}, api.ErrKind}, {one, 1, []cell.Act{{Kind: api.Load, At: 1}}, api.ErrArg}, {one, 1, []cell.Act{{Kind: api.Load, At: -1}}, api.ErrArg},
		{one, 1, []cell.Act{{Kind: api.Store, A: 1}}, api.ErrArg}, {one, 1, []cell.Act{{Kind: api.Store, A: -2}}, api.ErrArg}, {one, 1, []cell.Act{{Kind: api.Swap, A: 1}}, api.ErrArg},
		{one, 1, []cell.Act{{Kind: api.Cas, A: 1}}, api.ErrArg}, {one, 1, []cell.Act{{Kind: api.Cas, B: 1}}, api.ErrArg}, {one, 1, []cell.Act{{Kind: api.Cas, B: -2}}, api.ErrArg},
		{one, 1, []cell.Act{{Kind: api.Swap, A: 1}, {Kind: 9}}, api.ErrArg}, {one, 1, []cell.Act{{Kind: 9, A: 7}, {Kind: api.Swap, A: 1}}, api.ErrKind},
	}
	for _, c := range cases {
		a, h, k, e := cell.Ids(c.cells, c.things, c.acts)
		if e != c.e || len(a)+len(h)+len(k) != 0 {
			t.Errorf("Ids(%v, %d, %v) = %v, %v, %v, %d, want %d", c.cells, c.things, c.acts, a, h, k, e, c.e)
		}
	}
}

func TestMarksThatAreRefused(t *testing.T) { // P2.1
	one, ok := []bool{true}, cell.Act{Kind: api.Load}
	cases := []struct {
		cells []bool
		acts  []cell.Act
		e     api.Errno
	}{
		{make([]bool, api.MaxCells+1), []cell.Act{{Kind: 9}}, api.ErrBig}, {one, make([]cell.Act, api.MaxOps+1), api.ErrBig},
		{one, []cell.Act{{Kind: api.And, A: 1}}, api.ErrKind}, {one, []cell.Act{{Kind: api.Or}}, api.ErrKind}, {one, []cell.Act{ok, {Kind: api.Add, At: 9}}, api.ErrKind},
		{one, []cell.Act{{Kind: 0}}, api.ErrKind}, {one, []cell.Act{{Kind: 8}}, api.ErrKind}, {nil, []cell.Act{ok}, api.ErrArg},
		{one, []cell.Act{{Kind: api.Swap, At: 1}}, api.ErrArg}, {one, []cell.Act{{Kind: api.Cas, At: -1}, {Kind: 9}}, api.ErrArg},
	}
	for _, c := range cases {
		a, h, k, e := cell.Marks(c.cells, c.acts)
		if e != c.e || len(a)+len(h)+len(k) != 0 {
			t.Errorf("Marks(%v, %v) = %v, %v, %v, %d, want %d", c.cells, c.acts, a, h, k, e, c.e)
		}
	}
}

// withSpare: the list, with room behind it that a call could write to.
func withSpare[T any](list []T, spare T) []T {
	for range 5 {
		list = append(list, spare)
	}
	return list[: len(list)-5 : len(list)]
}

// checkApart overwrites the answered lists one after the other, each with a number of its own, spare room and all: where two share memory, the later one shows in the earlier.
func checkApart(t *testing.T, name string, lists ...[]int) {
	t.Helper()
	for i, list := range lists {
		whole := list[:cap(list)]
		for j := range whole {
			whole[j] = i
		}
	}
	for i, list := range lists {
		if slices.Max(list) != i || slices.Min(list) != i {
			t.Errorf("%s: list %d shares memory with a later one", name, i)
		}
	}
}

func TestMemoryOfActs(t *testing.T) { // P2.6
	cells := withSpare([]int{0, 1, -1}, 77)
	marks := withSpare([]bool{true, false, true}, true)
	acts := withSpare([]cell.Act{{Kind: api.Swap, A: 1}, {Kind: api.Cas, At: 1, A: 1, B: 0}, {Kind: api.Store, At: 2, A: 0}}, cell.Act{Kind: 77})
	picture := func() string {
		return fmt.Sprint(cells[:cap(cells)], marks[:cap(marks)], acts[:cap(acts)])
	}
	before := picture()
	a, h, k, _ := cell.Nums(cells, acts)
	checkApart(t, "Nums", a, h, k)
	a, h, k, _ = cell.Ids(cells, 2, acts)
	checkApart(t, "Ids", a, h, k)
	b, now, k, _ := cell.Marks(marks, acts)
	clear(b[:cap(b)])
	if !slices.Equal(now, []bool{true, false, false}) {
		t.Errorf("Marks: two answered lists share memory, or the marks are wrong: %v", now)
	}
	clear(now[:cap(now)])
	clear(k[:cap(k)])
	if picture() != before {
		t.Errorf("what was handed in has changed: %s, was %s", picture(), before)
	}
}
