package steps_test

import (
	"fmt"
	"math"
	"math/rand"
	"slices"
	"testing"

	"larch/api"
	"larch/steps"
	"larch/table"
)

// call answers what it answers as a text, whether all but the error is zero, and the error; it writes all over the answer then.
type call func(t []api.Node, at int, m steps.Move) (text string, zero bool, e api.Errno)

func list[T any](all []T, e api.Errno) (string, bool, api.Errno) {
	text := fmt.Sprint(all)
	var zero T
	for i := range all[:cap(all)] {
		all[:cap(all)][i] = zero
	}
	return text, len(all) == 0, e
}

// calls: those that take a move; those that take a place alone; those that take neither.
func calls() (moves, places, tables map[string]call) {
	moves = map[string]call{
		"Can": func(t []api.Node, at int, m steps.Move) (string, bool, api.Errno) {
			can, e := steps.Can(t, at, m)
			return fmt.Sprint(can), !can, e
		},
		"Do": func(t []api.Node, at int, m steps.Move) (string, bool, api.Errno) { return list(steps.Do(t, at, m)) },
		"Touched": func(t []api.Node, at int, m steps.Move) (string, bool, api.Errno) {
			return list(steps.Touched(t, at, m))
		},
	}
	places = map[string]call{
		"Here": func(t []api.Node, at int, _ steps.Move) (string, bool, api.Errno) { return list(steps.Here(t, at)) },
	}
	tables = map[string]call{
		"Spots": func(t []api.Node, _ int, _ steps.Move) (string, bool, api.Errno) {
			at, moves, e := steps.Spots(t)
			text, zero, _ := list(at, e)
			more, none, _ := list(moves, e)
			return text + more, zero && none, e
		},
	}
	return moves, places, tables
}

// wantRefused: the same error of all these calls, and nothing else.
func wantRefused(t *testing.T, what string, n []api.Node, at int, m steps.Move, want api.Errno, groups ...map[string]call) {
	t.Helper()
	for _, group := range groups {
		for name, c := range group {
			if text, zero, e := c(n, at, m); !zero || e != want {
				t.Errorf("%s: %s at %d of %v: %s, %d, want %d", what, name, at, m, text, e, want)
			}
		}
	}
}

func inf(left, right int) api.Node { return api.Node{Inf: 1, Weight: 1, Left: left, Right: right} }

func leaf(key, weight int) api.Node { return api.Node{Key: key, Weight: weight, Left: -1, Right: -1} }

// places: of every kind, of a table of seven nodes whose root of the keys is 2.
func somePlaces() []int { return []int{0, 1, 2, 3, 4, 5, 6, 7, -1, math.MinInt, math.MaxInt} }

// TestTablesThatAreRefused: the table's errors come first, whatever the place and the move.
func TestTablesThatAreRefused(t *testing.T) { // P18.1, P18.2
	moves, places, tables := calls()
	changed := func(change func(n []api.Node)) []api.Node {
		n := read(t, "(7:2 (5:2=0) (7:2=0))")
		change(n)
		return n
	}
	for what, wrong := range map[string]struct {
		t []api.Node
		e api.Errno
	}{
		"no nodes":             {nil, api.ErrForm},
		"a node too many":      {make([]api.Node, api.MaxNodes+1), api.ErrBig},
		"many and no tree":     {make([]api.Node, api.MaxNodes), api.ErrForm},
		"a leaf alone":         {[]api.Node{leaf(4, 2)}, api.ErrForm},
		"no crown":             {[]api.Node{{Key: 4, Weight: 2, Left: 1, Right: 2}, leaf(1, 2), leaf(4, 2)}, api.ErrForm},
		"a child out of range": {changed(func(n []api.Node) { n[2].Right = 7 }), api.ErrForm},
		"a ring":               {changed(func(n []api.Node) { n[2].Right = 1 }), api.ErrForm},
		"a weight below 0":     {changed(func(n []api.Node) { n[3].Weight = -1 }), api.ErrForm},
		"a weight too great":   {changed(func(n []api.Node) { n[3].Weight = api.MaxWeight + 1 }), api.ErrForm},
		"a heavy entry":        {changed(func(n []api.Node) { n[0].Weight = 2 }), api.ErrForm},
		"a heavy sentinel":     {changed(func(n []api.Node) { n[5].Weight = 2 }), api.ErrForm},
		"a sentinel for a key": {changed(func(n []api.Node) { n[3] = inf(-1, -1) }), api.ErrForm},
		"an empty map":         {table.Empty(), api.ErrNone},
		"an odd empty map":     {[]api.Node{inf(2, 1), inf(-1, -1), inf(-1, -1)}, api.ErrNone},
	} {
		for _, at := range somePlaces() {
			for _, m := range []steps.Move{{Kind: steps.W7}, {Kind: steps.BLK}, {}, {Kind: steps.W7, Mirror: true}} {
				wantRefused(t, what, wrong.t, at, m, wrong.e, moves, places, tables)
			}
		}
	}
}

// TestMovesAndPlacesThatAreNone: a move that is none comes ahead of a place that is none, and that ahead of conditions.
func TestMovesAndPlacesThatAreNone(t *testing.T) { // P18.1, P18.2
	moves, places, _ := calls()
	n := read(t, "(7:2 (5:2=0) (7:2=0))")
	for _, at := range somePlaces() {
		for _, m := range noMoves() {
			wantRefused(t, "no move", n, at, m, api.ErrKind, moves)
		}
		if at >= 2 && at <= 4 {
			continue
		}
		for _, m := range steps.All() {
			wantRefused(t, "no place", n, at, m, api.ErrArg, moves, places)
		}
	}
	odd := []api.Node{inf(3, 5), leaf(5, 2), leaf(7, 2), inf(4, 6), {Key: 7, Weight: 2, Left: 1, Right: 2}, inf(-1, -1), inf(-1, -1)}
	for at := range odd {
		can, e := steps.Can(odd, at, steps.Move{Kind: steps.W7})
		want := api.OK
		if odd[at].Inf == 1 {
			want = api.ErrArg
		}
		if can != (at == 4) || e != want {
			t.Errorf("Can(.., %d, W7) = %v, %d, want %d", at, can, e, want)
		}
	}
}

// TestWeightsThatAreTooGreat: only Do minds; and not at the root of the keys, which weighs 1 then.
func TestWeightsThatAreTooGreat(t *testing.T) { // P18.2
	for keys, m := range map[string]steps.Move{
		"(2:1000000 (1:2=10) (4:1 (2:1=20) (4:1=40)))": {Kind: steps.PUSH},
		"(4:1000000 (2:1 (1:1=10) (2:1=20)) (4:2=40))": {Kind: steps.PUSH, Mirror: true},
		"(2:1000000 (1:2=10) (2:2=20))":                {Kind: steps.W7},
	} {
		for _, sp := range spreads(t, keys) {
			can, e1 := steps.Can(sp.table, sp.at, m)
			here, e2 := steps.Here(sp.table, sp.at)
			out, e3 := steps.Touched(sp.table, sp.at, m)
			at, moves, e4 := steps.Spots(sp.table)
			if !can || !slices.Contains(here, m) || len(out) != 3 || !slices.Contains(at, sp.at) || !slices.Contains(moves, m) || e1|e2|e3|e4 != api.OK {
				t.Errorf("%v at %d of %s: %v, %v, %v", m, sp.at, keysText(t, sp.table), can, here, out)
			}
			got, e := steps.Do(sp.table, sp.at, m)
			if sp.at == 2 && (e != api.OK || got[2].Weight != 1) || sp.at != 2 && (e != api.ErrBig || len(got) != 0) {
				t.Errorf("Do(%s, %d, %v) = %v, %d", keysText(t, sp.table), sp.at, m, got, e)
			}
			sp.table[sp.at].Weight--
			if got, e := steps.Do(sp.table, sp.at, m); e != api.OK || sp.at != 2 && got[sp.at].Weight != api.MaxWeight {
				t.Errorf("Do(%s, %d, %v) = %v, %d", keysText(t, sp.table), sp.at, m, got, e)
			}
		}
	}
	heavy := spreads(t, "(6:1000000 (4:0 (2:0=20) (4:1000000=40)) (6:1000000=60))")[1]
	if got, e := steps.Do(heavy.table, heavy.at, steps.Move{Kind: steps.RB1}); e != api.OK || keysText(t, got) != heavy.lead+"(4:1000000 (2:0=20) (6:0 (4:1000000=40) (6:1000000=60)))"+heavy.trail {
		t.Errorf("RB1 of the greatest weights: %v, %d", got, e)
	}
}

// roomy: a list with spare room behind it.
func roomy[T any](list []T, with T) []T {
	room := append(slices.Clone(list), with, with, with, with)
	return room[:len(list):len(room)]
}

// TestMemory: no call changes what it is handed, spare room included; writing all over an answer changes neither that nor the answers that come later.
func TestMemory(t *testing.T) { // P18.7
	var all []map[string]call
	moves, places, only := calls()
	all = append(all, moves, places, only, map[string]call{
		"All": func([]api.Node, int, steps.Move) (string, bool, api.Errno) { return list(steps.All(), api.OK) },
	})
	r := rand.New(rand.NewSource(5))
	tables := [][]api.Node{table.Empty(), nil, {leaf(1, -1)}}
	for _, s := range sites() {
		x, _, _ := s.moved(t, s.kind%2 == 0)
		for _, sp := range spreads(t, x.text()) {
			tables = append(tables, sp.table, shuffled(r, sp.table))
		}
	}
	for _, n := range tables {
		for at := -1; at < len(n)+1; at++ {
			for _, m := range append(steps.All(), noMoves()[0]) {
				handed := roomy(n, leaf(-77, 7))
				before := slices.Clone(handed[:cap(handed)])
				for _, group := range all {
					for name, c := range group {
						want, _, e := c(handed, at, m)
						if got, _, e1 := c(handed, at, m); got != want || e != e1 {
							t.Fatalf("%s of %v, %d, %v: at first %s, then %s", name, n, at, m, want, got)
						}
						if !slices.Equal(handed[:cap(handed)], before) {
							t.Fatalf("%s of %v, %d, %v has changed what it was handed", name, n, at, m)
						}
					}
				}
			}
		}
	}
}

// TestDeepTrees: as many nodes as a table can have, as deep as can be: heavy leaves on the left, and all else on the right; and the mirror.
func TestDeepTrees(t *testing.T) { // P18.1, P18.2
	const inners = (api.MaxNodes-2)/2 - 2
	n := []api.Node{inf(1, -1), inf(2, -1)}
	for i := range inners {
		place := len(n)
		n = append(n, api.Node{Key: i + 1, Weight: 2, Left: place + 1, Right: place + 2}, leaf(i, 2))
	}
	n = append(n, leaf(inners, 2), inf(-1, -1), inf(-1, -1))
	n[1].Right, n[0].Right = len(n)-2, len(n)-1
	wantDeep(t, n, func(i int) int { return 2 + 2*i })
	wantDeep(t, mirrorKeys(t, n), func(i int) int { return 2 + i })
}

// wantDeep: a table in which W7 can be done at each inner node, whose places are told.
func wantDeep(t *testing.T, n []api.Node, inner func(i int) int) {
	t.Helper()
	const inners = (api.MaxNodes-2)/2 - 2
	places, moves, e := steps.Spots(n)
	if e != api.OK || len(places) != inners+1 || len(moves) != inners+1 || moves[0] != (steps.Move{Kind: steps.W7}) || moves[1] != (steps.Move{Kind: steps.ROOT}) {
		t.Fatalf("%d spots of %d nodes, %d", len(places), len(n), e)
	}
	for _, i := range []int{1, inners / 2, inners - 1} {
		at := inner(i)
		done, e := steps.Do(n, at, steps.Move{Kind: steps.W7})
		if e != api.OK || len(done) != len(n) {
			t.Fatalf("Do at %d: %d nodes, %d", at, len(done), e)
		}
		want := slices.Clone(n)
		want[at].Weight, want[n[at].Left].Weight, want[n[at].Right].Weight = 3, 1, 1
		if !slices.Equal(done, want) {
			t.Errorf("Do at %d of a deep tree gives another table", at)
		}
	}
}
