package free_test

import (
	"slices"
	"testing"

	"larch/api"
	"larch/free"
)

// TestNumbersThatAreRefused: of the calls that take plain numbers alone; what is wrong counts ahead of what is too much.
func TestNumbersThatAreRefused(t *testing.T) { // P27.1, P27.3
	for _, c := range []struct {
		n, size int
		e       api.Errno
		many    api.Errno // where so many of each worker count too
	}{
		{0, 0, api.ErrArg, api.ErrArg}, {-1, 3, api.ErrArg, api.ErrArg}, {65, 3, api.ErrArg, api.ErrArg}, {least, 0, api.ErrArg, api.ErrArg}, {most, 0, api.ErrArg, api.ErrArg},
		{1, -1, api.ErrArg, api.ErrArg}, {64, least, api.ErrArg, api.ErrArg}, {0, 1001, api.ErrArg, api.ErrArg}, {65, 1001, api.ErrArg, api.ErrArg}, {65, most, api.ErrArg, api.ErrArg},
		{1, 1001, api.ErrBig, api.ErrBig}, {64, 1001, api.ErrBig, api.ErrBig}, {1, most, api.ErrBig, api.ErrBig}, {64, 1 << 58, api.ErrBig, api.ErrBig}, {64, 1<<58 + 1, api.ErrBig, api.ErrBig},
		{64, 1000, api.OK, api.ErrBig}, {21, 1000, api.OK, api.ErrBig}, {59, 339, api.OK, api.ErrBig}, {64, 313, api.OK, api.ErrBig},
		{20, 1000, api.OK, api.OK}, {50, 400, api.OK, api.OK}, {64, 312, api.OK, api.OK}, {1, 1000, api.OK, api.OK}, {1, 0, api.OK, api.OK},
	} {
		cells, e := free.First(c.n, c.size)
		if e != c.e || e != api.OK && len(cells) != 0 {
			t.Errorf("First(%d, %d) = %v, %d", c.n, c.size, cells, e)
		}
		popped, left, none, e := free.Stack(c.n, c.size)
		if e != c.many || e != api.OK && (len(popped) != 0 || len(left) != 0 || none != 0) {
			t.Errorf("Stack(%d, %d) = %v, %v, %d, %d", c.n, c.size, popped, left, none, e)
		}
		taken, inOrder, e := free.Queue(c.n, c.size)
		if e != c.many || e != api.OK && (len(taken) != 0 || inOrder) {
			t.Errorf("Queue(%d, %d) = %v, %v, %d", c.n, c.size, taken, inOrder, e)
		}
		rose, pairs, e := free.Grow(c.n, c.size, 0)
		if e != c.e || e != api.OK && (rose || len(pairs) != 0) {
			t.Errorf("Grow(%d, %d, 0) = %v, %v, %d", c.n, c.size, rose, pairs, e)
		}
		rose, pairs, e = free.Grow(c.n, 0, c.size)
		if e != c.e || rose != (e == api.OK) || len(pairs) != 0 {
			t.Errorf("Grow(%d, 0, %d) = %v, %v, %d", c.n, c.size, rose, pairs, e)
		}
	}
	for _, c := range [][2]int{{1001, -1}, {-1, 1001}, {most, least}} {
		if _, _, e := free.Grow(1, c[0], c[1]); e != api.ErrArg {
			t.Errorf("Grow(1, %d, %d): %d", c[0], c[1], e)
		}
	}
}

// TestListsThatAreRefused: of the calls that take lists of numbers.
func TestListsThatAreRefused(t *testing.T) { // P27.1, P27.2, P27.4
	for _, c := range []struct {
		n, size int
		e       api.Errno
	}{
		{0, 0, api.ErrArg}, {-1, 1, api.ErrArg}, {65, 1, api.ErrArg}, {least, 1, api.ErrArg}, {most, 1, api.ErrArg}, {0, 1001, api.ErrArg}, {65, 1001, api.ErrArg},
		{1, 1001, api.ErrBig}, {64, 5000, api.ErrBig}, {1, 1000, api.OK}, {64, 1000, api.OK}, {1, 0, api.OK}, {64, 0, api.OK},
	} {
		list := make([]int, c.size)
		sum, e := free.Sum(c.n, list)
		if e != c.e || sum != 0 {
			t.Errorf("Sum(%d, so many: %d) = %d, %d", c.n, c.size, sum, e)
		}
		came, went, pairs, e := free.Rush(c.n, list)
		if e != c.e || len(pairs) != 0 || e != api.OK && (len(came) != 0 || len(went) != 0) {
			t.Errorf("Rush(%d, so many: %d) = %v, %v, %v, %d", c.n, c.size, came, went, pairs, e)
		}
		keys, tidy, e := free.Shape(c.n, list, nil)
		if e != c.e || e != api.OK && (len(keys) != 0 || tidy) {
			t.Errorf("Shape(%d, so many: %d, none) = %v, %v, %d", c.n, c.size, keys, tidy, e)
		}
		keys, tidy, e = free.Shape(c.n, nil, list)
		if e != c.e || len(keys) != 0 || tidy != (e == api.OK) {
			t.Errorf("Shape(%d, none, so many: %d) = %v, %v, %d", c.n, c.size, keys, tidy, e)
		}
	}
}

// manyScripts: of n workers, each with a Get of a key of its own.
func manyScripts(n int) [][]api.Op {
	var scripts [][]api.Op
	for worker := range n {
		scripts = append(scripts, ops(get(worker)))
	}
	return scripts
}

func TestScriptsThatAreRefused(t *testing.T) { // P27.2
	of := func(kind, key int) api.Op { return api.Op{Kind: kind, Key: key} }
	long := slices.Repeat(ops(put(1, 1)), 1001)
	odd := slices.Repeat(ops(of(99, 1)), 1001)
	for i, c := range []struct {
		scripts [][]api.Op
		e       api.Errno
	}{
		{nil, api.ErrArg}, {workers(), api.ErrArg}, {manyScripts(65), api.ErrArg}, {manyScripts(64), api.OK}, {append(manyScripts(64), odd), api.ErrArg},
		{workers(long), api.ErrBig}, {workers(odd), api.ErrBig}, {workers(ops(of(99, 1)), long), api.ErrBig}, {workers(ops(get(1)), long), api.ErrBig}, {workers(long[:1000]), api.OK},
		{workers(ops(of(0, 1))), api.ErrKind}, {workers(ops(of(-1, 1))), api.ErrKind}, {workers(ops(of(api.Successor, 1))), api.ErrKind}, {workers(ops(of(api.Predecessor, 1))), api.ErrKind},
		{workers(ops(of(api.Min, 0))), api.ErrKind}, {workers(ops(of(api.Max, 0))), api.ErrKind}, {workers(ops(of(api.Range, 0))), api.ErrKind}, {workers(ops(of(10, 1))), api.ErrKind},
		{workers(ops(of(least, 1))), api.ErrKind}, {workers(ops(of(most, 1))), api.ErrKind}, {workers(nil, ops(get(1), put(2, 2), of(5, 3))), api.ErrKind},
		{workers(ops(put(1, 1)), ops(get(1), of(api.Range, 0))), api.ErrKind}, {workers(ops(of(0, 1)), ops(get(1))), api.ErrKind}, {workers(ops(get(1)), ops(get(1)), ops(of(7, 2))), api.ErrKind},
		{workers(ops(put(1, 1)), ops(get(1))), api.ErrArg}, {workers(ops(get(1)), ops(get(1))), api.ErrArg}, {workers(ops(get(1), del(2)), nil, ops(get(3), ifAbsent(2, 2))), api.ErrArg},
		{workers(ops(del(least)), ops(get(5), del(least))), api.ErrArg}, {workers(ops(get(4), put(most, 0)), ops(put(most, 0))), api.ErrArg}, {workers(ops(get(0)), ops(get(1)), ops(get(2), get(1), get(0))), api.ErrArg},
		{workers(ops(get(1), get(1), put(1, 1)), ops(get(2), get(2))), api.OK}, {workers(nil), api.OK}, {workers(nil, ops(), nil), api.OK}, {workers(ops(get(least)), ops(get(most))), api.OK},
		{workers(ops(api.Op{Kind: api.Get, Key: 1, Val: 5, Hi: 6}), ops(api.Op{Kind: api.Put, Key: 5, Val: 1, Hi: 1}), ops(api.Op{Kind: api.Delete, Key: 6, Val: 5})), api.OK},
	} {
		answers, pairs, e := free.Apart(c.scripts)
		if e != c.e || e != api.OK && (len(answers) != 0 || len(pairs) != 0) {
			t.Errorf("row %d: Apart = %v, %v, %d, want %d", i, answers, pairs, e, c.e)
		}
	}
}
