package weigh_test

import (
	"math"
	"math/rand"
	"slices"
	"testing"

	"larch/api"
	"larch/table"
	"larch/weigh"
)

func TestHeavyByExamples(t *testing.T) { // P17.3
	for _, c := range []struct {
		from    string
		weights []int
		to      string
	}{
		{"(7:1 (5:1=0) (7:1=0))", []int{1, 0, 1}, "(7:1 (5:0=0) (7:1=0))"},
		{"(7:1 (5:1=0) (7:1=0))", []int{2, 1, 1}, "(7:2 (5:1=0) (7:1=0))"},
		{"(7:1 (5:1=3) (7:1=4))", []int{0, 0, 3}, "(7:0 (5:0=3) (7:3=4))"},
		{"(5:7=3)", []int{0}, "(5:0=3)"},
		{"(5:7=3)", []int{1000000}, "(5:1000000=3)"},
		{"(5:1 (2:1 (1:1=1) (2:1=2)) (6:1 (5:1=5) (6:1=6)))", []int{0, 1, 2, 3, 4, 5, 6}, "(5:0 (2:1 (1:2=1) (2:3=2)) (6:4 (5:5=5) (6:6=6)))"},
		{"", nil, ""}, {"", []int{}, ""},
	} {
		if got, e := weigh.Heavy(read(t, c.from), c.weights); e != api.OK || !slices.Equal(got, read(t, c.to)) {
			t.Errorf("Heavy(%q, %v) = %v, %d", c.from, c.weights, got, e)
		}
	}
}

func TestHeavyThatIsRefused(t *testing.T) { // P17.3
	for _, weights := range [][]int{
		nil, {}, {1}, {1, 1}, {1, 1, 1, 1}, make([]int, 7), make([]int, api.MaxNodes+1),
		{1, 1, -1}, {-1, 1, 1}, {1, 1000001, 1}, {math.MinInt, 1, 1}, {1, 1, math.MaxInt},
	} {
		if got, e := weigh.Heavy(exampleA(t), weights); len(got) != 0 || e != api.ErrArg {
			t.Errorf("Heavy(A, %d weights) = %v, %d", len(weights), got, e)
		}
	}
	if got, e := weigh.Heavy(table.Empty(), []int{1}); len(got) != 0 || e != api.ErrArg {
		t.Errorf("Heavy of an empty map with a weight = %v, %d", got, e)
	}
}

func TestHeavyByChance(t *testing.T) { // P17.3
	r := rand.New(rand.NewSource(7))
	for range 2000 {
		x := someTree(r, -4, r.Intn(14), r.Intn(2) == 0)
		want := x.table()
		odd, _ := shuffled(r, want)
		var own, other []int
		for _, y := range x.all() {
			own = append(own, y.weight)
		}
		if got, e := weigh.Heavy(odd, own); e != api.OK || !slices.Equal(got, want) {
			t.Fatalf("Heavy of %v's own weights = %v, %d", odd, got, e)
		}
		for _, y := range x.all() {
			y.weight = r.Intn(api.MaxWeight + 1)
			other = append(other, y.weight)
		}
		if got, e := weigh.Heavy(odd, other); e != api.OK || !slices.Equal(got, x.table()) {
			t.Fatalf("Heavy(%v, %v) = %v, %d", odd, other, got, e)
		}
	}
}
