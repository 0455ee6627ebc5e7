package snap

import "testing"

// A free run is always right: whether its verdicts would be told of wrong snapshots is seen from inside alone.

func TestIsChain(t *testing.T) { // P11.6
	for _, c := range []struct {
		snaps [][]int
		want  bool
	}{
		{nil, true}, {[][]int{{}}, true}, {[][]int{{}, {}}, true}, {[][]int{{3, 1}}, true},
		{[][]int{{0, 0}, {1, 2}, {0, 2}, {1, 2}, {0, 0}}, true},
		{[][]int{{5}, {3}, {4}}, true},
		{[][]int{{0, 1}, {1, 0}}, false},
		{[][]int{{1, 0}, {0, 1}}, false},
		{[][]int{{0, 0, 1}, {0, 0, 0}, {0, 1, 0}, {2, 2, 2}}, false},
		{[][]int{{1, 1, 5}, {0, 0, 6}, {0, 0, 0}}, false},
		{[][]int{{2, 2}, {0, 3}, {0, 0}, {3, 3}}, false},
	} {
		if got := isChain(c.snaps); got != c.want {
			t.Errorf("isChain(%v) = %v", c.snaps, got)
		}
	}
}

// TestIsChainAgainstAllPairs: neighbours speak for all pairs.
func TestIsChainAgainstAllPairs(t *testing.T) { // P11.6
	below := func(a, b []int) bool { return a[0] <= b[0] && a[1] <= b[1] }
	for code := range 9 * 9 * 9 {
		var snaps [][]int
		for rest := code; len(snaps) < 3; rest /= 9 {
			snaps = append(snaps, []int{rest % 3, rest / 3 % 3})
		}
		want := true
		for _, a := range snaps {
			for _, b := range snaps {
				want = want && (below(a, b) || below(b, a))
			}
		}
		if got := isChain(snaps); got != want {
			t.Errorf("isChain(%v) = %v", snaps, got)
		}
	}
}

func TestFalls(t *testing.T) { // P11.6
	for _, c := range []struct {
		snaps [][]int
		want  bool
	}{
		{nil, false}, {[][]int{{1, 2}}, false}, {[][]int{{}, {}}, false}, {[][]int{{1, 2}, {1, 2}}, false}, {[][]int{{1, 2}, {1, 3}, {4, 3}}, false},
		{[][]int{{1, 2}, {0, 2}}, true}, {[][]int{{1, 2}, {9, 1}}, true}, {[][]int{{1, 2}, {3, 3}, {3, 2}}, true}, {[][]int{{2, 2}, {1, 1}, {3, 3}}, true},
	} {
		if got := falls(c.snaps); got != c.want {
			t.Errorf("falls(%v) = %v", c.snaps, got)
		}
	}
}

func TestAreOwn(t *testing.T) { // P11.6
	for _, c := range []struct {
		seen [][][]int
		want bool
	}{
		{nil, true}, {[][][]int{nil, {}}, true}, {[][][]int{{{1, 9}, {2, 0}}, {{7, 1}}}, true},
		{[][][]int{{{1, 9}, {1, 9}}, nil}, false}, {[][][]int{{{0, 1}}, nil}, false}, {[][][]int{{{1, 9}}, {{1, 2}}}, false}, {[][][]int{{{2, 9}}, nil}, false},
	} {
		if got := areOwn(c.seen); got != c.want {
			t.Errorf("areOwn(%v) = %v", c.seen, got)
		}
	}
}
