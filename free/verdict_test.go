package free

import (
	"slices"
	"testing"

	"larch/api"
	"larch/node"
	"larch/scan"
	"larch/table"
)

// A free run is always right: whether its verdicts would be told of wrong ones is seen from inside alone.

func TestAreInOrder(t *testing.T) { // P27.1
	for _, c := range []struct {
		took [][]int
		want bool
	}{
		{nil, true}, {[][]int{{}, {}}, true}, {[][]int{{0, 1, 2, 10, 11}, {20, 21}}, true}, {[][]int{{20, 10, 0, 21, 1, 11}}, true}, {[][]int{{5, 9}, {0, 1, 2, 3, 4, 8}}, true},
		{[][]int{{1, 0}}, false}, {[][]int{{0, 10, 20}, {1, 12, 2, 11}}, false}, {[][]int{{0, 20, 1, 21, 1}}, false}, {[][]int{{20, 29, 28}}, false}, {[][]int{{3}, {4}, {6, 10, 5}}, false},
	} {
		if got := areInOrder(c.took, 3, 10); got != c.want {
			t.Errorf("areInOrder(%v) = %v", c.took, got)
		}
	}
}

func TestFollows(t *testing.T) { // P27.3
	row := []api.Pair{{Key: 1, Val: 1}, {Key: 2, Val: 2}, {Key: 3, Val: 3}}
	for _, c := range []struct {
		pairs   []api.Pair
		last, m int
		want    bool
	}{
		{nil, 0, 0, true}, {nil, 0, 3, true}, {row, 0, 3, true}, {row, 3, 3, true}, {row[:2], 1, 9, true}, {nil, 1, 3, false}, {row[:2], 3, 3, false}, {row, 0, 2, false},
		{row[1:], 0, 3, false}, {[]api.Pair{row[0], row[2]}, 0, 3, false}, {[]api.Pair{row[1], row[0]}, 0, 3, false}, {[]api.Pair{{Key: 1, Val: 2}}, 0, 3, false}, {[]api.Pair{{Key: 0, Val: 0}}, 0, 3, false}, {[]api.Pair{row[0], row[0]}, 0, 3, false},
	} {
		if got := follows(c.pairs, c.last, c.m); got != c.want {
			t.Errorf("follows(%v, %d, %d) = %v", c.pairs, c.last, c.m, got)
		}
	}
}

// TestSeesRising: one wrong Range is enough, whichever; without a Range nothing is wrong.
func TestSeesRising(t *testing.T) { // P27.3
	entry := node.Entry()
	_, _ = scan.Do(nil, entry, api.Op{Kind: api.Put, Key: 1, Val: 1})
	if !seesRising(entry, 1, 5) || !seesRising(entry, 0, 0) || seesRising(entry, 0, 1) {
		t.Error("of the pair 1:1")
	}
	_, _ = scan.Do(nil, entry, api.Op{Kind: api.Put, Key: 3, Val: 3})
	if seesRising(entry, 3, 1) || seesRising(entry, 3, 4) || !seesRising(entry, 3, 0) {
		t.Error("of the pairs 1:1 and 3:3")
	}
}

func crowned(keys string) string { return "(inf:1 (inf:1 " + keys + " (inf:1)) (inf:1))" }

func readTable(t *testing.T, text string) []api.Node {
	t.Helper()
	list, e := table.Read(text)
	if e != api.OK {
		t.Fatalf("%s can't be read", text)
	}
	return list
}

// turned: the same tree, but its two sentinels that are leaves have changed places.
func turned(t []api.Node) []api.Node {
	t[0].Left, t[0].Right = 2, 1
	return t
}

func TestIsTidy(t *testing.T) { // P27.4
	for text, want := range map[string]bool{
		"(inf:1 (inf:1) (inf:1))":                      true,
		crowned("(5:1=0)"):                             true,
		crowned("(7:1 (5:1=0) (7:1=0))"):               true,
		crowned("(7:1 (5:0 (3:1=0) (5:1=0)) (7:1=0))"): true,
		"(5:1=0)":                                                    false, // no crown
		"(inf:1 (5:1=0) (inf:1))":                                    false,
		crowned("(7:1 (8:1=0) (7:1=0))"):                             false, // not ordered
		crowned("(7:1 (5:1=0) (7:2=0))"):                             false, // uneven
		crowned("(7:1 (5:0=0) (7:0=0))"):                             false, // light leaves
		crowned("(7:0 (5:1=0) (7:1=0))"):                             false, // a light root
		crowned("(5:2=0)"):                                           false, // a heavy root
		crowned("(7:1 (5:2=0) (7:2=0))"):                             false, // overweight
		crowned("(9:1 (7:0 (5:0 (3:1=0) (5:1=0)) (7:1=0)) (9:1=0))"): false, // red below red
	} {
		if got := isTidy(readTable(t, text)); got != want {
			t.Errorf("isTidy(%s) = %v", text, got)
		}
	}
	if isTidy(nil) || isTidy(turned(table.Empty())) || isTidy([]api.Node{{Inf: 1, Weight: 1, Left: 0, Right: 0}}) {
		t.Error("isTidy of what is not in form, or numbered in another way")
	}
}

func TestShapeOf(t *testing.T) { // P27.4
	for _, c := range []struct {
		text    string
		workers int
		keys    []int
		want    bool
	}{
		{"(inf:1 (inf:1) (inf:1))", 1, nil, true},
		{crowned("(5:1=0)"), 1, []int{5}, true}, {crowned("(5:1=1)"), 1, []int{5}, false}, {crowned("(5:1=-1)"), 9, []int{5}, false},
		{crowned("(7:1 (5:1=63) (7:1=0))"), 64, []int{5, 7}, true}, {crowned("(7:1 (5:1=0) (7:1=64))"), 64, []int{5, 7}, false}, {crowned("(7:1 (5:2=0) (7:2=0))"), 64, []int{5, 7}, false},
	} {
		if keys, is := shapeOf(readTable(t, c.text), c.workers); !slices.Equal(keys, c.keys) || is != c.want {
			t.Errorf("shapeOf(%s, %d) = %v, %v", c.text, c.workers, keys, is)
		}
	}
}
