package steps_test

import (
	"math"
	"slices"
	"testing"

	"larch/api"
	"larch/steps"
)

// allMoves: as the chapter has them.
func allMoves() ([]steps.Move, []string) {
	return []steps.Move{
		{Kind: 1}, {Kind: 2}, {Kind: 2, Mirror: true}, {Kind: 3}, {Kind: 3, Mirror: true}, {Kind: 4}, {Kind: 4, Mirror: true}, {Kind: 5}, {Kind: 5, Mirror: true}, {Kind: 6}, {Kind: 6, Mirror: true},
		{Kind: 7}, {Kind: 7, Mirror: true}, {Kind: 8}, {Kind: 8, Mirror: true}, {Kind: 9}, {Kind: 9, Mirror: true}, {Kind: 10}, {Kind: 10, Mirror: true}, {Kind: 11}, {Kind: 12},
	}, []string{
		"BLK", "RB1", "RB1 mirror", "RB2", "RB2 mirror", "PUSH", "PUSH mirror", "W1", "W1 mirror", "W2", "W2 mirror",
		"W3", "W3 mirror", "W4", "W4 mirror", "W5", "W5 mirror", "W6", "W6 mirror", "W7", "ROOT",
	}
}

// noMoves: kinds that are none, and kinds that have no mirror.
func noMoves() []steps.Move {
	no := []steps.Move{{Kind: steps.BLK, Mirror: true}, {Kind: steps.W7, Mirror: true}, {Kind: steps.ROOT, Mirror: true}}
	for _, kind := range []int{0, -1, 13, 14, -12, math.MinInt, math.MaxInt} {
		no = append(no, steps.Move{Kind: kind}, steps.Move{Kind: kind, Mirror: true})
	}
	return no
}

func TestKinds(t *testing.T) { // P18.1
	kinds := []int{steps.BLK, steps.RB1, steps.RB2, steps.PUSH, steps.W1, steps.W2, steps.W3, steps.W4, steps.W5, steps.W6, steps.W7, steps.ROOT}
	if !slices.Equal(kinds, []int{1, 2, 3, 4, 5, 6, 7, 8, 9, 10, 11, 12}) {
		t.Errorf("the kinds are %v", kinds)
	}
}

func TestAll(t *testing.T) { // P18.1
	moves, _ := allMoves()
	if got := steps.All(); !slices.Equal(got, moves) {
		t.Errorf("All() = %v", got)
	}
}

func TestNames(t *testing.T) { // P18.1
	moves, names := allMoves()
	for i, m := range moves {
		if got, e := steps.Name(m); got != names[i] || e != api.OK {
			t.Errorf("Name(%v) = %q, %d, want %q", m, got, e, names[i])
		}
		if got, e := steps.Of(names[i]); got != m || e != api.OK {
			t.Errorf("Of(%q) = %v, %d, want %v", names[i], got, e, m)
		}
	}
	for _, m := range noMoves() {
		if got, e := steps.Name(m); got != "" || e != api.ErrKind {
			t.Errorf("Name(%v) = %q, %d", m, got, e)
		}
	}
}

func TestNamesThatAreNone(t *testing.T) { // P18.1
	for _, name := range []string{
		"", " ", "mirror", " mirror", "BLK mirror", "W7 mirror", "ROOT mirror", "blk", "Blk", "rb1", "w1", "root", "push", "RB", "RB0", "RB3", "RB11", "W", "W0", "W8", "W10", "W11", "W01", "BLK ", " BLK", "BLK\n", "BLK\x00", "PUSHH", "PUS", "ROOT1", "1", "0",
		"RB1  mirror", "RB1 mirror ", " RB1 mirror", "RB1mirror", "RB1 Mirror", "RB1 MIRROR", "RB1 mirrors", "RB1 mirro", "RB1 ", "RB1\tmirror", "RB1 mirror mirror", "W3-mirror", "mirror W3", "RB1 RB1", "\xff",
	} {
		if got, e := steps.Of(name); got != (steps.Move{}) || e != api.ErrText {
			t.Errorf("Of(%q) = %v, %d", name, got, e)
		}
	}
}
