package cell

import (
	"slices"

	"larch/api"
)

// Act is an access as plain data.
type Act struct {
	Kind, At, A, B int
}

// Nums: the acts on numbers, one behind the other: answers, what the cells hold then, the kinds that the gate saw.
func Nums(cells []int, acts []Act) ([]int, []int, []int, api.Errno) {
	if tooMany(len(cells), len(acts)) {
		return nil, nil, nil, api.ErrBig
	}
	if e := firstRefused(acts, func(a Act) api.Errno { return numError(a, len(cells)) }); e != api.OK {
		return nil, nil, nil, e
	}
	nums := make([]Num, len(cells))
	for i, n := range cells {
		nums[i].Store(nil, n)
	}
	answers, kinds := play(acts, func(g Gate, a Act) int { return doNum(g, &nums[a.At], a) })
	held := make([]int, len(nums))
	for i := range nums {
		held[i] = nums[i].Load(nil)
	}
	return answers, held, kinds, api.OK
}

// Ids: the acts on cells that hold one of so many things, all equal, or nil (-1).
func Ids(cells []int, things int, acts []Act) ([]int, []int, []int, api.Errno) {
	if tooMany(len(cells), len(acts)) || things > maxThings {
		return nil, nil, nil, api.ErrBig
	}
	if things < 0 || slices.ContainsFunc(cells, func(n int) bool { return !isThing(n, things) }) {
		return nil, nil, nil, api.ErrArg
	}
	if e := firstRefused(acts, func(a Act) api.Errno { return idError(a, len(cells), things) }); e != api.OK {
		return nil, nil, nil, e
	}
	made := makeThings(things)
	row := make([]Cell[thing], len(cells))
	for i, n := range cells {
		row[i].Store(nil, made.numbered(n))
	}
	answers, kinds := play(acts, func(g Gate, a Act) int { return made.do(g, &row[a.At], a) })
	held := make([]int, len(row))
	for i := range row {
		held[i] = made.number(row[i].Load(nil))
	}
	return answers, held, kinds, api.OK
}

// Marks: the acts on marks.
func Marks(cells []bool, acts []Act) ([]bool, []bool, []int, api.Errno) {
	if tooMany(len(cells), len(acts)) {
		return nil, nil, nil, api.ErrBig
	}
	if e := firstRefused(acts, func(a Act) api.Errno { return cellError(a, len(cells)) }); e != api.OK {
		return nil, nil, nil, e
	}
	marks := make([]Mark, len(cells))
	for i, set := range cells {
		marks[i].Store(nil, set)
	}
	answers, kinds := play(acts, func(g Gate, a Act) bool { return doMark(g, &marks[a.At], a) })
	held := make([]bool, len(marks))
	for i := range marks {
		held[i] = marks[i].Load(nil)
	}
	return answers, held, kinds, api.OK
}

// play does the acts through one Tape: the answers, and the Tape's kinds.
func play[A any](acts []Act, do func(g Gate, a Act) A) ([]A, []int) {
	tape := NewTape()
	answers := make([]A, len(acts))
	for i, a := range acts {
		answers[i] = do(tape, a)
	}
	return answers, tape.Kinds()
}

func doNum(g Gate, c *Num, a Act) int {
	switch a.Kind {
	case api.Load:
		return c.Load(g)
	case api.Store:
		c.Store(g, a.A)
	case api.Add:
		return c.Add(g, a.A)
	case api.Swap:
		return c.Swap(g, a.A)
	case api.Cas:
		return oneIf(c.Cas(g, a.A, a.B))
	case api.And:
		return c.And(g, a.A)
	case api.Or:
		return c.Or(g, a.A)
	}
	return 0
}

func doMark(g Gate, c *Mark, a Act) bool {
	switch a.Kind {
	case api.Load:
		return c.Load(g)
	case api.Store:
		c.Store(g, a.A != 0)
	case api.Swap:
		return c.Swap(g, a.A != 0)
	case api.Cas:
		return c.Cas(g, a.A != 0, a.B != 0)
	}
	return false
}

func oneIf(b bool) int {
	if b {
		return 1
	}
	return 0
}
