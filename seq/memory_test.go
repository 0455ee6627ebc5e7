package seq_test

import (
	"fmt"
	"slices"
	"testing"

	"larch/api"
	"larch/seq"
	"larch/table"
)

// withSpare: the list, with room behind it that a call could write to.
func withSpare[T any](list []T, spare T) []T {
	return append(slices.Clone(list), slices.Repeat([]T{spare}, 5)...)[:len(list)]
}

// scribble writes all over a list, spare room too.
func scribble[T any](list []T, with T) {
	list = list[:cap(list)]
	for i := range list {
		list[i] = with
	}
}

// answer is what a call answered: a text of it, taken anew each time, and how to write all over its first list, its second one, ..
type answer struct {
	text      func() []string
	scribbles []func()
}

var (
	noNode = api.Node{Key: 77, Left: 77}
	noPair = api.Pair{Key: 77}
	noTurn = seq.Turn{At: 77}
)

func answerOf(n []api.Node, rets []api.Ret, turns []seq.Turn, many []int, rest ...any) answer {
	parts := []any{&n, &turns, &many}
	a := answer{text: func() []string {
		var all []string
		for _, p := range parts {
			all = append(all, fmt.Sprint(p))
		}
		for _, r := range rets {
			all = append(all, fmt.Sprint(r))
		}
		return append(all, fmt.Sprint(rest...))
	}}
	a.scribbles = append(a.scribbles, func() { scribble(n, noNode) }, func() { scribble(turns, noTurn) }, func() { scribble(many, 77) })
	for i := range rets {
		a.scribbles = append(a.scribbles, func() { scribble(rets[i].Pairs, noPair) })
	}
	return a
}

// calls: each on the same arguments.
func calls(n []api.Node, ops []api.Op, list []api.Pair) map[string]func() answer {
	all := map[string]func() answer{
		"Check": func() answer { return answerOf(nil, nil, nil, nil, seq.Check(n)) },
		"Next": func() answer {
			at, m, e := seq.Next(n, 2)
			return answerOf(nil, nil, nil, nil, at, m, e)
		},
		"Clean": func() answer {
			then, turns, clean, e := seq.Clean(n, 2, 9)
			return answerOf(then, nil, turns, nil, clean, e)
		},
		"Run": func() answer {
			then, rets, many, e := seq.Run(n, ops)
			return answerOf(then, rets, nil, many, e)
		},
		"Of": func() answer {
			then, e := seq.Of(list)
			return answerOf(then, nil, nil, nil, e)
		},
	}
	for _, o := range ops {
		all[fmt.Sprint("Change ", o)] = func() answer {
			then, ret, dirty, e := seq.Change(n, o)
			return answerOf(then, []api.Ret{ret}, nil, nil, dirty, e)
		}
		all[fmt.Sprint("Do ", o)] = func() answer {
			then, ret, turns, e := seq.Do(n, o)
			return answerOf(then, []api.Ret{ret}, turns, nil, e)
		}
	}
	return all
}

func TestMemory(t *testing.T) { // P19.6
	tables := map[string][]api.Node{
		"heavy":     read(t, "(9:1 (4:1 (2:2=0) (4:2=0)) (9:3=0))"),
		"an empty":  table.Empty(),
		"otherwise": read(t, "(5:1 (3:0 (2:0 (1:1=0) (2:1=0)) (4:0 (3:1=0) (4:1=0))) (5:1=0))"),
	}
	other := tables["otherwise"]
	other[2], other[7] = other[7], other[2] // numbered otherwise
	for i, n := range other {
		if n.Left != -1 {
			swap := map[int]int{2: 7, 7: 2}
			for _, side := range []*int{&other[i].Left, &other[i].Right} {
				if to, is := swap[*side]; is {
					*side = to
				}
			}
		}
	}
	if seq.Check(other) != api.OK {
		t.Fatal("no fit table")
	}
	for name, n := range tables {
		n = withSpare(n, noNode)
		ops := withSpare([]api.Op{put(3, 30), put(2, 1), absent(8, 1), del(4), {Kind: api.Range, Key: 0, Hi: 9}, {Kind: api.Range, Key: 2, Hi: 5}, del(9), {Kind: api.Max}}, api.Op{Kind: 77})
		list := withSpare(pairs(3, 1, 2, 2, 9, 3, 3, 4), noPair)
		picture := func() string { return fmt.Sprint(n[:cap(n)], ops[:cap(ops)], list[:cap(list)]) }
		before := picture()
		for call, do := range calls(n, ops, list) {
			first, second := do(), do()
			want := second.text()
			if !slices.Equal(first.text(), want) {
				t.Errorf("%s, %s: it answers %v and then %v", name, call, first.text(), want)
			}
			for i, scribble := range first.scribbles { // only the list itself may change by that
				then := first.text()
				scribble()
				for k, now := range first.text() {
					if now != then[k] && k != i {
						t.Errorf("%s, %s: list %d shares memory with list %d", name, call, k, i)
					}
				}
			}
			if !slices.Equal(second.text(), want) {
				t.Errorf("%s, %s: two answers share memory", name, call)
			}
			if now := picture(); now != before {
				t.Fatalf("%s, %s: what was handed in has changed: %s, was %s", name, call, now, before)
			}
			if again := do().text(); !slices.Equal(again, want) {
				t.Errorf("%s, %s: it answers %v then, it was %v", name, call, again, want)
			}
		}
	}
}

// TestNothingIsKept: what was handed in may be written over behind a call.
func TestNothingIsKept(t *testing.T) { // P19.6
	n := read(t, "(9:1 (4:1 (2:2=0) (4:2=0)) (9:3=0))")
	ops := []api.Op{put(3, 30), {Kind: api.Range, Key: 0, Hi: 9}}
	list := pairs(3, 1, 2, 2)
	for call, do := range calls(n, ops, list) {
		n2, ops2, list2 := slices.Clone(n), slices.Clone(ops), slices.Clone(list)
		a := do()
		want := a.text()
		scribble(n, noNode)
		scribble(ops, api.Op{Kind: 77})
		scribble(list, noPair)
		if !slices.Equal(a.text(), want) {
			t.Errorf("%s: the answer shares memory with what was handed in", call)
		}
		copy(n, n2)
		copy(ops, ops2)
		copy(list, list2)
	}
}
