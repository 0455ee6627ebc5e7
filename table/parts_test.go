package table_test

import (
	"math"
	"math/rand"
	"slices"
	"testing"

	"larch/api"
	"larch/table"
)

func TestPartsByExamples(t *testing.T) { // P16.4
	sub, err := table.Sub(exampleNorm(), 1)
	if want := nodes(e(1, 2), l(5, 1, 50), e(-1, -1)); err != api.OK || !slices.Equal(sub, want) {
		t.Errorf("example 5: Sub = %v, %d", sub, err)
	}
	if got, err := table.Graft(table.Empty(), 1, sub); err != api.OK || !slices.Equal(got, exampleNorm()) {
		t.Errorf("example 5: Graft = %v, %d", got, err)
	}
	got, err := table.Mirror(nodes(i(4, 1, 1, 2), l(1, 1, 0), l(9, 2, 3)))
	if want := nodes(i(4, 1, 1, 2), l(9, 2, 3), l(1, 1, 0)); err != api.OK || !slices.Equal(got, want) {
		t.Errorf("example 6: Mirror = %v, %d", got, err)
	}
}

// TestPartsByChance: at each place, of tables that are numbered by chance.
func TestPartsByChance(t *testing.T) { // P16.4
	r := rand.New(rand.NewSource(7))
	for range 1000 {
		x, y := someTree(r, 1+r.Intn(6)), someTree(r, 1+r.Intn(5))
		odd, at := shuffled(r, x.table())
		with, _ := shuffled(r, y.table())
		for k, n := range x.all() {
			sub, err := table.Sub(odd, at[k])
			if err != api.OK || !slices.Equal(sub, n.table()) {
				t.Fatalf("%s: Sub at %d = %v, %d", x.text(), k, sub, err)
			}
			if back, err := table.Graft(odd, at[k], sub); err != api.OK || !slices.Equal(back, x.table()) {
				t.Fatalf("%s: Graft of its own Sub at %d = %v, %d", x.text(), k, back, err)
			}
			got, err := table.Graft(odd, at[k], with)
			if err != api.OK || !slices.Equal(got, x.grafted(k, y).table()) {
				t.Fatalf("%s: Graft at %d of %s = %v, %d", x.text(), k, y.text(), got, err)
			}
			if sub, err := table.Sub(got, k); err != api.OK || !slices.Equal(sub, y.table()) { // what comes ahead of the place is numbered as before
				t.Fatalf("Sub of the grafted one = %v, %d, want %v", sub, err, y.table())
			}
		}
		mirror, err := table.Mirror(odd)
		if err != api.OK || !slices.Equal(mirror, x.mirror().table()) {
			t.Fatalf("%s: Mirror = %v, %d", x.text(), mirror, err)
		}
		if back, err := table.Mirror(mirror); err != api.OK || !slices.Equal(back, x.table()) {
			t.Fatalf("%s: Mirror of Mirror = %v, %d", x.text(), back, err)
		}
	}
}

// TestGraftOfATreeOnItself: one table as both.
func TestGraftOfATreeOnItself(t *testing.T) { // P16.4
	x := inner(4, 1, leaf(1, 1, 2), leaf(4, 1, 3))
	tab := x.table()
	for k := range tab {
		if got, err := table.Graft(tab, k, tab); err != api.OK || !slices.Equal(got, x.grafted(k, x).table()) {
			t.Errorf("at %d: %v, %d", k, got, err)
		}
	}
}

func TestPlacesOutOfRange(t *testing.T) { // P16.4
	big, bad := make([]api.Node, api.MaxNodes+1), nodes(l(1, -1, 0))
	for _, place := range []int{-1, 5, 6, math.MinInt, math.MaxInt} {
		if got, err := table.Sub(exampleOdd(), place); err != api.ErrArg || len(got) != 0 {
			t.Errorf("Sub at %d = %v, %d", place, got, err)
		}
		if got, err := table.Graft(exampleOdd(), place, table.Empty()); err != api.ErrArg || len(got) != 0 {
			t.Errorf("Graft at %d = %v, %d", place, got, err)
		}
		for _, c := range []struct {
			t, with []api.Node
			err     api.Errno
		}{
			{big, bad, api.ErrBig}, {bad, big, api.ErrForm}, {nil, big, api.ErrForm}, {exampleOdd(), big, api.ErrBig}, {exampleOdd(), bad, api.ErrForm}, {exampleOdd(), nil, api.ErrForm},
		} {
			if got, err := table.Graft(c.t, place, c.with); err != c.err || len(got) != 0 {
				t.Errorf("Graft at %d of %d nodes on %d = %d, want %d", place, len(c.with), len(c.t), err, c.err)
			}
		}
	}
	for place := range 5 {
		_, e0 := table.Sub(exampleOdd(), place)
		_, e1 := table.Graft(exampleOdd(), place, table.Empty())
		if e0+e1 != api.OK {
			t.Errorf("at %d: Sub %d, Graft %d", place, e0, e1)
		}
	}
}

// TestGraftThatBecomesTooBig: the limit itself, and one above it.
func TestGraftThatBecomesTooBig(t *testing.T) { // P16.4
	three := table.Empty()
	for name, deep := range deepTables(mostInner) {
		last := len(deep) - 1
		if got, err := table.Graft(deep, last, three); err != api.ErrBig || len(got) != 0 {
			t.Errorf("%s: three nodes in a leaf's place: %d nodes, %d", name, len(got), err)
		}
		if got, err := table.Graft(three, 1, deep); err != api.ErrBig || len(got) != 0 {
			t.Errorf("%s in a leaf's place: %d nodes, %d", name, len(got), err)
		}
		if _, err := table.Graft(deep, len(deep), three); err != api.ErrArg { // ahead of what comes out
			t.Errorf("%s: at no place: %d", name, err)
		}
		if got, err := table.Graft(deep, last, nodes(l(7, 7, 7))); err != api.OK || len(got) != len(deep) {
			t.Errorf("%s: a leaf in a leaf's place: %d nodes, %d", name, len(got), err)
		}
		if got, err := table.Graft(three, 0, deep); err != api.OK || !slices.Equal(got, deep) {
			t.Errorf("%s in the root's place: %d nodes, %d", name, len(got), err)
		}
		if got, err := table.Graft(deep, 0, three); err != api.OK || !slices.Equal(got, three) {
			t.Errorf("%s: three nodes in its root's place: %d nodes, %d", name, len(got), err)
		}
		if got, err := table.Graft(deep, 0, deep); err != api.OK || !slices.Equal(got, deep) {
			t.Errorf("%s on itself: %d nodes, %d", name, len(got), err)
		}
	}
	for name, deep := range deepTables(mostInner - 1) {
		if got, err := table.Graft(deep, len(deep)-1, three); err != api.OK || len(got) != api.MaxNodes-1 || table.Check(got) != api.OK {
			t.Errorf("%s: up to the limit: %d nodes, %d", name, len(got), err)
		}
	}
}

func TestPartsOfDeepTrees(t *testing.T) { // P16.4
	for name, deep := range deepTables(mostInner) {
		mirror, e0 := table.Mirror(deep)
		back, e1 := table.Mirror(mirror)
		whole, e2 := table.Sub(deep, 0)
		norm, e3 := table.Norm(deep)
		if e0+e1+e2+e3 != api.OK || table.Check(mirror) != api.OK || !slices.Equal(back, deep) || !slices.Equal(whole, deep) || !slices.Equal(norm, deep) {
			t.Errorf("%s: %d, %d, %d, %d", name, e0, e1, e2, e3)
		}
		odd, at := shuffled(rand.New(rand.NewSource(8)), deep)
		sub, err := table.Sub(odd, at[1000])
		want, _ := table.Sub(deep, 1000)
		if same, e := table.Same(odd, deep); !same || e+err != api.OK || !slices.Equal(sub, want) {
			t.Errorf("%s, numbered by chance: Same = %v, Sub of %d nodes, %d", name, same, len(sub), err)
		}
	}
}
