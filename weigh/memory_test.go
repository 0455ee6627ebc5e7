package weigh_test

import (
	"fmt"
	"math/rand"
	"slices"
	"testing"

	"larch/api"
	"larch/table"
	"larch/weigh"
)

// call answers what it answers as a text, whether all but the error is zero, and the error; it writes all over the answer then.
type call func(t []api.Node, weights []int) (text string, zero bool, e api.Errno)

func number(n int, e api.Errno) (string, bool, api.Errno) { return fmt.Sprint(n), n == 0, e }

func truth(is bool, e api.Errno) (string, bool, api.Errno) { return fmt.Sprint(is), !is, e }

func list[T any](all []T, e api.Errno) (string, bool, api.Errno) {
	text := fmt.Sprint(all)
	var zero T
	for i := range all[:cap(all)] {
		all[:cap(all)][i] = zero
	}
	return text, len(all) == 0, e
}

func calls() map[string]call {
	return map[string]call{
		"Sums": func(t []api.Node, _ []int) (string, bool, api.Errno) { return list(weigh.Sums(t)) },
		"Even": func(t []api.Node, _ []int) (string, bool, api.Errno) {
			sum, is, e := weigh.Even(t)
			return fmt.Sprint(sum, is), sum == 0 && !is, e
		},
		"Sound":      func(t []api.Node, _ []int) (string, bool, api.Errno) { return truth(weigh.Sound(t)) },
		"Reds":       func(t []api.Node, _ []int) (string, bool, api.Errno) { return list(weigh.Reds(t)) },
		"Overs":      func(t []api.Node, _ []int) (string, bool, api.Errno) { return list(weigh.Overs(t)) },
		"Violations": func(t []api.Node, _ []int) (string, bool, api.Errno) { return number(weigh.Violations(t)) },
		"First":      func(t []api.Node, _ []int) (string, bool, api.Errno) { return number(weigh.First(t, 5)) },
		"Total":      func(t []api.Node, _ []int) (string, bool, api.Errno) { return number(weigh.Total(t)) },
		"Deep":       func(t []api.Node, _ []int) (string, bool, api.Errno) { return number(weigh.Deep(t)) },
		"Fits":       func(t []api.Node, _ []int) (string, bool, api.Errno) { return truth(weigh.Fits(t)) },
		"Heavy":      func(t []api.Node, weights []int) (string, bool, api.Errno) { return list(weigh.Heavy(t, weights)) },
	}
}

// noTables: what every call refuses, and how.
func noTables(t *testing.T) map[string]struct {
	t []api.Node
	e api.Errno
} {
	changed := func(change func(n []api.Node)) []api.Node {
		n := exampleA(t)
		change(n)
		return n
	}
	type wrong = struct {
		t []api.Node
		e api.Errno
	}
	return map[string]wrong{
		"no nodes":               {nil, api.ErrForm},
		"a node too many":        {make([]api.Node, api.MaxNodes+1), api.ErrBig},
		"many nodes and no tree": {make([]api.Node, api.MaxNodes), api.ErrForm},
		"a leaf alone":           {[]api.Node{leaf(4, 1)}, api.ErrForm},
		"a sentinel alone":       {[]api.Node{inf(-1, -1)}, api.ErrForm},
		"keys without a crown":   {[]api.Node{{Key: 4, Weight: 1, Left: 1, Right: 2}, leaf(1, 1), leaf(4, 1)}, api.ErrForm},
		"a child out of range":   {changed(func(n []api.Node) { n[2].Right = 7 }), api.ErrForm},
		"a ring":                 {changed(func(n []api.Node) { n[2].Right = 1 }), api.ErrForm},
		"a weight below 0":       {changed(func(n []api.Node) { n[3].Weight = -1 }), api.ErrForm},
		"a weight too great":     {changed(func(n []api.Node) { n[3].Weight = api.MaxWeight + 1 }), api.ErrForm},
		"a heavy entry":          {changed(func(n []api.Node) { n[0].Weight = 2 }), api.ErrForm},
		"a light arch":           {changed(func(n []api.Node) { n[1].Weight = 0 }), api.ErrForm},
		"a heavy sentinel":       {changed(func(n []api.Node) { n[5].Weight = 2 }), api.ErrForm},
		"a key for a sentinel":   {changed(func(n []api.Node) { n[6].Inf = 0 }), api.ErrForm},
		"a sentinel for a key":   {changed(func(n []api.Node) { n[3] = inf(-1, -1) }), api.ErrForm},
		"one arch alone":         {[]api.Node{inf(1, 2), leaf(4, 1), inf(-1, -1)}, api.ErrForm},
	}
}

func TestTablesThatAreRefused(t *testing.T) { // P17.1, P17.2, P17.3
	for name, c := range calls() {
		for what, wrong := range noTables(t) {
			for _, weights := range [][]int{{1, 1, 1}, nil, {-1}} { // the table's errors come first
				if text, zero, e := c(wrong.t, weights); !zero || e != wrong.e {
					t.Errorf("%s of %s: %s, %d, want %d", name, what, text, e, wrong.e)
				}
			}
		}
	}
}

// roomy: a list with spare room behind it.
func roomy[T any](list []T, with T) []T {
	room := append(slices.Clone(list), with, with, with, with)
	return room[:len(list):len(room)]
}

// TestMemory: no call changes what it is handed, spare room included; writing all over an answer changes neither that nor the answers that come later.
func TestMemory(t *testing.T) { // P17.5
	odd, _ := shuffled(rand.New(rand.NewSource(10)), read(t, "(7:0 (5:0 (3:0=3) (5:4=5)) (7:2=7))"))
	tables := [][]api.Node{table.Empty(), exampleA(t), read(t, "(5:3=5)"), odd, nil, {leaf(1, 1)}, {leaf(1, -1)}}
	for name, c := range calls() {
		for _, n := range tables {
			for _, w := range [][]int{nil, {2}, {0, 2, 3}, {1, 2, 3, 4, 5}, {-1, 0, 0}} {
				handed, weights := roomy(n, leaf(-77, 7)), roomy(w, -78)
				before := fmt.Sprint(handed[:cap(handed)], weights[:cap(weights)])
				want, _, _ := c(handed, weights)
				if got, _, _ := c(handed, weights); got != want {
					t.Errorf("%s of %v, %v: at first %s, then %s", name, n, w, want, got)
				}
				if fmt.Sprint(handed[:cap(handed)], weights[:cap(weights)]) != before {
					t.Errorf("%s of %v, %v has changed what it was handed", name, n, w)
				}
			}
		}
	}
}
