package queue

import (
	"testing"

	"larch/api"
)

// names: of one list; a name is written as source*10 + place.
func names(list ...int) []int {
	var out []int
	for _, n := range list {
		out = append(out, nameOf(n/10, n%10))
	}
	return out
}

func takers(list ...[]int) [][]int { return list }

// TestInOrder: no schedule of a right queue shows that Rush would tell of a wrong one; so its judgement is asked here.
func TestInOrder(t *testing.T) { // P10.6
	for _, c := range []struct {
		name string
		took [][]int
		left []int
		want bool
	}{
		{"nothing", takers(nil, nil), nil, true},
		{"all is left", takers(nil), names(0, 10, 1, 20, 11), true},
		{"all was taken", takers(names(0, 1, 2), nil), nil, true},
		{"two that share a source", takers(names(0, 2), names(1, 3)), names(4), true},
		{"sources go by themselves", takers(names(15, 0, 25, 16), names(20, 1, 10)), names(26, 17, 2), true},
		{"one falls", takers(names(1, 0)), nil, false},
		{"one falls, with others between", takers(nil, names(11, 0, 20, 10)), nil, false},
		{"one comes twice", takers(names(3, 3)), nil, false},
		{"what is left falls", takers(nil), names(0, 11, 10), false},
		{"what is left comes twice", takers(nil), names(10, 10), false},
		{"left, and one behind it was taken", takers(nil, names(11)), names(10), false},
		{"left and taken", takers(names(10)), names(10), false},
		{"left below the greatest taken, above the last taker's", takers(names(14), names(11)), names(12), false},
		{"place 0 is left, and nothing of it was taken", takers(names(25)), names(0, 10), true},
	} {
		if got := inOrder(3, c.took, c.left); got != c.want {
			t.Errorf("%s: %v, want %v", c.name, got, c.want)
		}
	}
}

// TestNamesTellSourcesApart: the greatest ones too.
func TestNamesTellSourcesApart(t *testing.T) { // P10.6
	for source := range api.MaxThreads + 1 {
		for _, place := range []int{0, 1, api.MaxOps - 1} {
			n := nameOf(source, place)
			if sourceOf(n) != source || placeOf(n) != place {
				t.Errorf("name %d: source %d, place %d", n, sourceOf(n), placeOf(n))
			}
		}
	}
	scripts := [][]api.Op{{{Kind: put, Val: 5}}, {{Kind: take, Val: 6}, {Kind: put, Val: 5}}}
	for name, want := range map[int]int{nameOf(0, 1): 8, nameOf(1, 0): 5, nameOf(2, 1): 5} {
		if got := valueOf(name, []int{7, 8}, scripts); got != want {
			t.Errorf("name %d: value %d, want %d", name, got, want)
		}
	}
}
