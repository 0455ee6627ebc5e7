package node_test

import (
	"fmt"
	"slices"
	"testing"

	"larch/api"
	"larch/node"
	"larch/table"
)

// withSpare: the list, with room behind it that a call could write to.
func withSpare[T any](list []T, spare T) []T {
	return append(slices.Clone(list), slices.Repeat([]T{spare}, 5)...)[:len(list)]
}

// scribble writes all over a list, spare room too.
func scribble[T any](list []T, with T) {
	list = list[:cap(list)]
	for i := range list {
		list[i] = with
	}
}

var noNode = api.Node{Key: 77, Left: 77}

// answer is what a call answered: its text, taken anew each time, and how to write all over it.
type answer struct {
	text func() string
	over func()
}

func answerOf[A, B any](a []A, noA A, b []B, noB B, rest ...any) answer {
	return answer{func() string { return fmt.Sprint(a, b, rest) }, func() { scribble(a, noA); scribble(b, noB) }}
}

func calls(n []api.Node, keys []int) map[string]func() answer {
	return map[string]func() answer{
		"Round": func() answer {
			r, kinds, e := node.Round(n)
			return answerOf(r, noNode, kinds, 77, e)
		},
		"Walk": func() answer {
			places, kinds, e := node.Walk(n, 6)
			return answerOf(places, 77, kinds, 77, e)
		},
		"Seek": func() answer {
			rets, many, e := node.Seek(n, keys)
			return answerOf(rets, api.Ret{Key: 77}, many, 77, e)
		},
		"Make, Read": func() answer {
			x, _ := node.Make(n)
			r, e := node.Read(nil, x)
			return answerOf(r, noNode, []int{}, 0, e)
		},
	}
}

func TestMemory(t *testing.T) { // P20.5
	for _, plain := range [][]api.Node{exampleA(t), table.Empty(), {inf(2, 1), inf(-1, -1), inf(3, 4), {Key: 5, Weight: 1, Val: 50, Left: -1, Right: -1}, inf(-1, -1)}} {
		n := withSpare(plain, noNode)
		keys := withSpare([]int{5, 6, 7}, 77)
		picture := func() string { return fmt.Sprint(n[:cap(n)], keys[:cap(keys)]) }
		before := picture()
		for call, do := range calls(n, keys) {
			first, second := do(), do()
			want := second.text()
			first.over()
			if now := picture(); now != before {
				t.Fatalf("%s: what was handed in has changed: %s, was %s", call, now, before)
			}
			scribble(n[:len(n):len(n)], noNode)
			scribble(keys[:len(keys):len(keys)], 77)
			if now := second.text(); now != want {
				t.Errorf("%s: the answer %s has become %s", call, want, now)
			}
			copy(n, plain)
			copy(keys, []int{5, 6, 7})
			if again := do().text(); again != want {
				t.Errorf("%s answers %s, and then %s", call, want, again)
			}
		}
	}
}

// TestMemoryOfNodes: a path that is written over, a table that is, and two trees of one table.
func TestMemoryOfNodes(t *testing.T) { // P20.5
	n := exampleA(t)
	entry, other := made(t, n), made(t, n)
	scribble(n, noNode)
	path := node.Path(nil, entry, 5)
	scribble(path, nil)
	if got, e := node.Read(nil, entry); !slices.Equal(got, exampleA(t)) || e != api.OK {
		t.Errorf("the nodes have become %v, %d", got, e)
	}
	nodes := nodesOf(entry)
	if len(nodes) != len(n) || slices.ContainsFunc(nodesOf(other), func(x *node.Node) bool { return slices.Contains(nodes, x) }) {
		t.Error("two trees have nodes in common")
	}
	entry.Swing(nil, 0, node.Left(nil, entry), node.Leaf(0, 1, 1, 0))
	if got, e := node.Read(nil, other); !slices.Equal(got, exampleA(t)) || e != api.OK {
		t.Errorf("the other tree has become %v, %d", got, e)
	}
}
