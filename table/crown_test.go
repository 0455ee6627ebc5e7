package table_test

import (
	"math/rand"
	"slices"
	"testing"

	"larch/api"
	"larch/table"
)

func TestEmpty(t *testing.T) { // P16.3
	want := nodes(e(1, 2), e(-1, -1), e(-1, -1))
	got := table.Empty()
	if !slices.Equal(got, want) || table.Check(got) != api.OK {
		t.Errorf("Empty() = %v", got)
	}
	got[0].Left = 9
	if !slices.Equal(table.Empty(), want) {
		t.Errorf("Empty() = %v", table.Empty())
	}
}

func TestRootByExamples(t *testing.T) { // P16.3
	for _, c := range []struct {
		tab  []api.Node
		want int
		err  api.Errno
	}{
		{table.Empty(), 0, api.ErrNone}, {exampleOdd(), 3, api.OK}, {exampleNorm(), 2, api.OK}, {nodes(i(4, 0, 1, 2), l(1, 1, 0), l(4, 1, 0)), 0, api.ErrForm},
	} {
		if got, err := table.Root(c.tab); got != c.want || err != c.err {
			t.Errorf("Root(%v) = %d, %d, want %d, %d", c.tab, got, err, c.want, c.err)
		}
	}
}

func TestRootByChance(t *testing.T) { // P16.3
	r := rand.New(rand.NewSource(6))
	for range 500 {
		tab, at := shuffled(r, crowned(orderedTree(r, -5, 1+r.Intn(9))).table())
		if got, err := table.Root(tab); got != at[2] || err != api.OK {
			t.Fatalf("Root(%v) = %d, %d", tab, got, err)
		}
		tab, _ = shuffled(r, table.Empty())
		if got, err := table.Root(tab); got != 0 || err != api.ErrNone {
			t.Fatalf("Root(%v) = %d, %d", tab, got, err)
		}
	}
}

// TestRootWithoutACrown: what is nearly a crown, in each way.
func TestRootWithoutACrown(t *testing.T) { // P16.3
	keys := func() *tree { return inner(7, 1, leaf(5, 1, 0), leaf(7, 1, 0)) }
	weighing := func(x *tree, weight int) *tree { x.Weight = weight; return x }
	for name, x := range map[string]*tree{
		"a leaf":                              leaf(5, 1, 0),
		"a sentinel leaf":                     end(),
		"an entry with a key":                 inner(9, 1, end(), end()),
		"an entry of weight 0":                weighing(arch(end(), end()), 0),
		"an entry of weight 2":                weighing(crowned(keys()), 2),
		"a right leaf with a key":             arch(end(), leaf(5, 1, 0)),
		"a right leaf of weight 2":            arch(end(), weighing(end(), 2)),
		"a right side that is inner":          arch(end(), arch(end(), end())),
		"a left leaf with a key":              arch(leaf(5, 1, 0), end()),
		"a left leaf of weight 0":             arch(weighing(end(), 0), end()),
		"no second arch":                      arch(keys(), end()),
		"a second arch of weight 0":           arch(weighing(arch(keys(), end()), 0), end()),
		"a second arch's right leaf of a key": arch(arch(keys(), leaf(9, 1, 0)), end()),
		"a second arch's right leaf's weight": arch(arch(keys(), weighing(end(), 3)), end()),
		"a second arch's right side inner":    arch(arch(keys(), arch(end(), end())), end()),
		"sentinels in the keys' place":        crowned(end()),
		"a third arch":                        crowned(arch(keys(), end())),
		"a sentinel leaf among the keys":      crowned(inner(7, 1, leaf(5, 1, 0), end())),
		"a deep sentinel":                     crowned(inner(7, 1, inner(6, 1, leaf(5, 1, 0), arch(leaf(6, 1, 0), leaf(6, 1, 0))), leaf(7, 1, 0))),
		"the crown's mirror":                  crowned(keys()).mirror(),
	} {
		if got, err := table.Root(x.table()); got != 0 || err != api.ErrForm {
			t.Errorf("%s: Root(%s) = %d, %d", name, x.text(), got, err)
		}
	}
	for name, x := range map[string]*tree{
		"keys of any weight": weighing(keys(), 0),
		"a heavy leaf":       leaf(0, api.MaxWeight, 0),
		"keys in no order":   keys().mirror(),
	} {
		if got, err := table.Root(crowned(x).table()); got != 2 || err != api.OK {
			t.Errorf("%s: Root = %d, %d", name, got, err)
		}
	}
}

// TestRootOfDeepTrees: a crown over as many nodes as there may be.
func TestRootOfDeepTrees(t *testing.T) { // P16.3
	for name, deep := range deepTables(mostInner - 2) {
		tab, err := table.Graft(crowned(leaf(1, 1, 1)).table(), 2, deep)
		if err != api.OK {
			t.Fatalf("%s: Graft: %d", name, err)
		}
		if got, err := table.Root(tab); got != 2 || err != api.OK {
			t.Errorf("%s: Root = %d, %d", name, got, err)
		}
		last := slices.IndexFunc(tab, func(n api.Node) bool { return n.Left == -1 && n.Inf == 0 })
		tab[last] = e(-1, -1)
		if got, err := table.Root(tab); got != 0 || err != api.ErrForm {
			t.Errorf("%s: Root with a sentinel among the keys = %d, %d", name, got, err)
		}
	}
}
