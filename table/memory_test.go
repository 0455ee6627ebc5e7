package table_test

import (
	"fmt"
	"slices"
	"testing"

	"larch/api"
	"larch/table"
)

// roomy: a table with spare room behind it.
func roomy(list ...api.Node) []api.Node {
	room := append(list, l(-77, 7, 7), l(-78, 8, 8), l(-79, 9, 9), l(-80, 9, 9), l(-81, 9, 9))
	return room[:len(list):len(room)]
}

// scribble writes all over a list, spare room included.
func scribble[T any](list []T, with T) {
	for k := range list[:cap(list)] {
		list[:cap(list)][k] = with
	}
}

// call answers what it answers as a text, and writes all over it then.
type call func(t, with []api.Node) string

func told[T any](list []T, err api.Errno, with T) string {
	text := fmt.Sprint(list, err)
	scribble(list, with)
	return text
}

func calls() map[string]call {
	n, p := l(-555, 5, 5), api.Pair{Key: -556, Val: 5}
	return map[string]call{
		"Check":                     func(t, _ []api.Node) string { return fmt.Sprint(table.Check(t)) },
		"Norm":                      func(t, _ []api.Node) string { list, err := table.Norm(t); return told(list, err, n) },
		"Same":                      func(t, with []api.Node) string { return fmt.Sprint(table.Same(t, with)) },
		"Leaves":                    func(t, _ []api.Node) string { list, err := table.Leaves(t); return told(list, err, -557) },
		"Pairs":                     func(t, _ []api.Node) string { list, err := table.Pairs(t); return told(list, err, p) },
		"Parents":                   func(t, _ []api.Node) string { list, err := table.Parents(t); return told(list, err, -558) },
		"Height":                    func(t, _ []api.Node) string { return fmt.Sprint(table.Height(t)) },
		"Search":                    func(t, _ []api.Node) string { list, err := table.Search(t, 5); return told(list, err, -559) },
		"Ordered":                   func(t, _ []api.Node) string { return fmt.Sprint(table.Ordered(t)) },
		"Empty":                     func(_, _ []api.Node) string { return told(table.Empty(), api.OK, n) },
		"Root":                      func(t, _ []api.Node) string { return fmt.Sprint(table.Root(t)) },
		"Sub":                       func(t, _ []api.Node) string { list, err := table.Sub(t, 2); return told(list, err, n) },
		"Sub of 0":                  func(t, _ []api.Node) string { list, err := table.Sub(t, 0); return told(list, err, n) },
		"Graft":                     func(t, with []api.Node) string { list, err := table.Graft(t, 3, with); return told(list, err, n) },
		"Graft in the root's place": func(t, with []api.Node) string { list, err := table.Graft(t, 0, with); return told(list, err, n) },
		"Graft on itself":           func(t, _ []api.Node) string { list, err := table.Graft(t, 1, t); return told(list, err, n) },
		"Graft at no place":         func(t, with []api.Node) string { list, err := table.Graft(t, 9, with); return told(list, err, n) },
		"Mirror":                    func(t, _ []api.Node) string { list, err := table.Mirror(t); return told(list, err, n) },
		"Text":                      func(t, _ []api.Node) string { return fmt.Sprint(table.Text(t)) },
		"Read of Text": func(t, _ []api.Node) string {
			s, _ := table.Text(t)
			list, err := table.Read(s)
			return told(list, err, n)
		},
	}
}

// TestMemory: no call changes what it is handed, spare room included; writing all over an answer changes neither that nor the answers that come later.
func TestMemory(t *testing.T) { // P16.6
	tables := [][]api.Node{
		exampleOdd(), exampleNorm(), table.Empty(), nodes(i(7, 1, 1, 2), l(5, 1, 0), i(9, 1, 4, 3), l(9, 1, 4), l(7, 1, 3)), nodes(l(1, 1, 1)), nil, nodes(l(1, -1, 1)), nodes(i(1, 1, 1, 2), i(1, 1, 1, 2), l(1, 1, 1)),
	}
	for name, c := range calls() {
		for _, a := range tables {
			for _, b := range tables {
				first, second := roomy(slices.Clone(a)...), roomy(slices.Clone(b)...)
				before := fmt.Sprint(first[:cap(first)], second[:cap(second)])
				want := c(first, second)
				if got := c(first, second); got != want {
					t.Errorf("%s of %v, %v: at first %s, then %s", name, a, b, want, got)
				}
				if fmt.Sprint(first[:cap(first)], second[:cap(second)]) != before {
					t.Errorf("%s of %v, %v has changed what it was handed", name, a, b)
				}
			}
		}
	}
}
