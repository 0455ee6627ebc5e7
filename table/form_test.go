package table_test

import (
	"math"
	"math/rand"
	"slices"
	"testing"

	"larch/api"
	"larch/table"
)

// isInForm: the chapter's words, one after the other.
func isInForm(t []api.Node) bool {
	if len(t) < 1 || len(t) > api.MaxNodes {
		return false
	}
	ups := make([]int, len(t))
	for _, n := range t {
		isLeaf := n.Left == -1 && n.Right == -1
		isInner := n.Left >= 1 && n.Left <= len(t)-1 && n.Right >= 1 && n.Right <= len(t)-1 && n.Left != n.Right
		if !isLeaf && !isInner || n.Inf != 0 && n.Inf != 1 || n.Inf == 1 && n.Key != 0 || (isInner || n.Inf == 1) && n.Val != 0 || n.Weight < 0 || n.Weight > api.MaxWeight {
			return false
		}
		if isInner {
			ups[n.Left]++
			ups[n.Right]++
		}
	}
	reached := map[int]bool{0: true}
	for range t { // as often as it takes
		for place, n := range t {
			if reached[place] && n.Left != -1 {
				reached[n.Left], reached[n.Right] = true, true
			}
		}
	}
	for place := range t {
		if !reached[place] || place > 0 && ups[place] != 1 {
			return false
		}
	}
	return true
}

func wantCheck(t *testing.T, tab []api.Node) bool {
	t.Helper()
	want := api.ErrForm
	if isInForm(tab) {
		want = api.OK
	}
	if got := table.Check(tab); got != want {
		t.Fatalf("Check(%v) = %d, want %d", tab, got, want)
	}
	return want == api.OK
}

func TestCheckByExamples(t *testing.T) { // P16.1
	for _, tab := range [][]api.Node{table.Empty(), exampleOdd(), exampleNorm(), nodes(l(1, 1, 0)), nodes(e(-1, -1)), nodes(i(4, 1, 1, 2), l(4, 1, 0), l(7, 1, 0))} {
		if got := table.Check(tab); got != api.OK {
			t.Errorf("Check(%v) = %d", tab, got)
		}
	}
	for _, tab := range [][]api.Node{
		nil, {}, nodes(i(1, 1, 1, 1), l(2, 1, 0)), nodes(i(1, 1, 0, 1), l(2, 1, 0)), nodes(i(1, 1, 1, -1), l(2, 1, 0)), nodes(l(1, 1, 0), l(2, 1, 0)),
		nodes(i(1, 1, 1, 2), i(2, 1, 3, 4), l(3, 1, 0)), nodes(l(1, -1, 0)), nodes(l(1, 1000001, 0)),
		nodes(api.Node{Inf: 2, Left: -1, Right: -1}), nodes(api.Node{Inf: 1, Key: 3, Left: -1, Right: -1}), nodes(api.Node{Key: 1, Val: 1, Left: 1, Right: 2}, l(1, 1, 0), l(2, 1, 0)),
	} {
		if got := table.Check(tab); got != api.ErrForm {
			t.Errorf("Check(%v) = %d", tab, got)
		}
	}
}

// TestCheckOfEachWay: a good table with one thing wrong, in each way that the chapter names.
func TestCheckOfEachWay(t *testing.T) { // P16.1
	good := nodes(i(4, 1, 1, 2), l(1, 1, 7), i(6, 0, 3, 4), l(5, 1, 8), e(-1, -1))
	if table.Check(good) != api.OK {
		t.Fatal("the good one isn't good")
	}
	wrongs := map[string]func(t []api.Node){
		"Left below -1":                       func(t []api.Node) { t[0].Left = -2 },
		"Right above the end":                 func(t []api.Node) { t[2].Right = 5 },
		"Left far above the end":              func(t []api.Node) { t[2].Left = math.MaxInt },
		"Right far below":                     func(t []api.Node) { t[2].Right = math.MinInt },
		"Left to the root":                    func(t []api.Node) { t[2].Left = 0 },
		"Right to the root":                   func(t []api.Node) { t[2].Right = 0 },
		"Left to itself":                      func(t []api.Node) { t[2].Left = 2 },
		"both children are one":               func(t []api.Node) { t[2].Left = 4 },
		"a child less":                        func(t []api.Node) { t[2].Right = -1 },
		"a left child less":                   func(t []api.Node) { t[2].Left = -1 },
		"no children, so two that nobody has": func(t []api.Node) { t[2].Left, t[2].Right = -1, -1 },
		"a child of two":                      func(t []api.Node) { t[2].Left = 1 },
		"a ring of its own":                   func(t []api.Node) { t[0], t[1], t[3] = l(0, 0, 0), i(1, 1, 2, 4), i(1, 1, 1, 2) },
		"Inf 2":                               func(t []api.Node) { t[4].Inf = 2 },
		"Inf -1":                              func(t []api.Node) { t[4].Inf = -1 },
		"Inf 1 with a key":                    func(t []api.Node) { t[4].Key = -1 },
		"an inner Inf 1 with a key":           func(t []api.Node) { t[2].Inf = 1 },
		"Inf 1 with a value":                  func(t []api.Node) { t[4].Val = 1 },
		"an inner node with a value":          func(t []api.Node) { t[2].Val = 1 },
		"the root with a value":               func(t []api.Node) { t[0].Val = -1 },
		"a weight below 0":                    func(t []api.Node) { t[3].Weight = -1 },
		"the least weight":                    func(t []api.Node) { t[2].Weight = math.MinInt },
		"a weight above the limit":            func(t []api.Node) { t[0].Weight = api.MaxWeight + 1 },
		"the greatest weight":                 func(t []api.Node) { t[1].Weight = math.MaxInt },
	}
	for name, wrong := range wrongs {
		bad := slices.Clone(good)
		wrong(bad)
		if got := table.Check(bad); got != api.ErrForm || isInForm(bad) {
			t.Errorf("%s: Check = %d", name, got)
		}
	}
	good[0].Weight, good[1].Weight, good[1].Key, good[3].Val = api.MaxWeight, 0, math.MinInt, math.MaxInt
	if table.Check(good) != api.OK {
		t.Error("the limits themselves are refused")
	}
}

// TestCheckOfAll: every table of up to three nodes by their children.
func TestCheckOfAll(t *testing.T) { // P16.1
	for size := range 4 {
		tab := make([]api.Node, size)
		good := 0
		var fill func(at int)
		fill = func(at int) {
			if at == size {
				if wantCheck(t, tab) {
					good++
				}
				return
			}
			for left := -2; left <= size; left++ {
				for right := -2; right <= size; right++ {
					tab[at] = i(at, 1, left, right)
					fill(at + 1)
				}
			}
		}
		fill(0)
		if want := []int{0, 1, 0, 2}[size]; good != want {
			t.Errorf("%d tables of %d nodes are in form, want %d", good, size, want)
		}
	}
}

// TestCheckByChance: trees with one thing changed, or none, or two.
func TestCheckByChance(t *testing.T) { // P16.1
	r := rand.New(rand.NewSource(1))
	good := 0
	for range 20000 {
		tab, _ := shuffled(r, someTree(r, 1+r.Intn(6)).table())
		for range r.Intn(3) {
			n := &tab[r.Intn(len(tab))]
			field := []*int{&n.Left, &n.Right, &n.Left, &n.Right, &n.Key, &n.Inf, &n.Weight, &n.Val}[r.Intn(8)]
			*field = r.Intn(len(tab)+3) - 2
		}
		if r.Intn(8) == 0 {
			tab = append(tab, l(1, 1, 1))
		}
		if wantCheck(t, tab) {
			good++
		}
	}
	if good < 4000 || good > 16000 {
		t.Errorf("%d tables are in form: the test sees too little", good)
	}
}

func TestCheckAtTheLimits(t *testing.T) { // P16.1
	if got := table.Check(make([]api.Node, api.MaxNodes+1)); got != api.ErrBig {
		t.Errorf("a node too many: %d", got)
	}
	if got := table.Check(make([]api.Node, api.MaxNodes)); got != api.ErrForm {
		t.Errorf("as many nodes as there may be, and no tree: %d", got)
	}
	for name, deep := range deepTables(mostInner) {
		if got := table.Check(deep); got != api.OK || len(deep) != api.MaxNodes-1 {
			t.Errorf("%s, of %d nodes: Check = %d", name, len(deep), got)
		}
		deep[len(deep)-1].Weight = -1
		if got := table.Check(deep); got != api.ErrForm {
			t.Errorf("%s, its last node wrong: Check = %d", name, got)
		}
		deep = slices.Concat(deep, nodes(l(0, 0, 0), l(0, 0, 0)))
		if got := table.Check(deep); got != api.ErrBig {
			t.Errorf("%s, of %d nodes: Check = %d", name, len(deep), got)
		}
	}
}

func TestNormByExamples(t *testing.T) { // P16.1
	for _, tab := range [][]api.Node{exampleOdd(), exampleNorm()} {
		if got, err := table.Norm(tab); err != api.OK || !slices.Equal(got, exampleNorm()) {
			t.Errorf("Norm(%v) = %v, %d", tab, got, err)
		}
	}
	one := nodes(l(math.MinInt, 0, math.MaxInt))
	if got, err := table.Norm(one); err != api.OK || !slices.Equal(got, one) {
		t.Errorf("Norm of a leaf = %v, %d", got, err)
	}
}

func TestNormByChance(t *testing.T) { // P16.1
	r := rand.New(rand.NewSource(2))
	for range 2000 {
		want := someTree(r, 1+r.Intn(12)).table()
		odd, _ := shuffled(r, want)
		got, err := table.Norm(odd)
		if err != api.OK || !slices.Equal(got, want) {
			t.Fatalf("Norm(%v) = %v, %d, want %v", odd, got, err, want)
		}
		if again, err := table.Norm(got); err != api.OK || !slices.Equal(again, got) {
			t.Fatalf("Norm of %v = %v, %d", got, again, err)
		}
	}
}

func TestSameByChance(t *testing.T) { // P16.1
	r := rand.New(rand.NewSource(3))
	alike, unlike := 0, 0
	for range 3000 {
		norm := make([][]api.Node, 3)
		odd := make([][]api.Node, 3)
		for k := range norm {
			if k > 0 && r.Intn(2) == 0 {
				norm[k] = norm[k-1]
			} else {
				norm[k] = someTree(r, 1+r.Intn(3)).table()
			}
			odd[k], _ = shuffled(r, norm[k])
		}
		for j := range odd {
			for k := range odd {
				want := slices.Equal(norm[j], norm[k])
				if got, err := table.Same(odd[j], odd[k]); got != want || err != api.OK {
					t.Fatalf("Same(%v, %v) = %v, %d", odd[j], odd[k], got, err)
				}
				if j != k && want {
					alike++
				} else if !want {
					unlike++
				}
			}
		}
	}
	if alike < 1000 || unlike < 1000 {
		t.Errorf("%d are alike, %d aren't: the test sees too little", alike, unlike)
	}
}

// TestSameOfNearlyOne: each thing that a node has counts.
func TestSameOfNearlyOne(t *testing.T) { // P16.1
	for name, change := range map[string]func(t []api.Node){
		"a key":            func(t []api.Node) { t[3].Key = 6 },
		"a weight":         func(t []api.Node) { t[2].Weight = 0 },
		"a value":          func(t []api.Node) { t[3].Val = 51 },
		"a sentinel":       func(t []api.Node) { t[4].Inf = 0 },
		"left and right":   func(t []api.Node) { t[2].Left, t[2].Right = 4, 3 },
		"the root's sides": func(t []api.Node) { t[0].Left, t[0].Right = 1, 2 },
	} {
		other := exampleOdd()
		change(other)
		if same, err := table.Same(exampleNorm(), other); same || err != api.OK {
			t.Errorf("%s is another one: Same = %v, %d", name, same, err)
		}
	}
	if same, err := table.Same(exampleNorm(), table.Empty()); same || err != api.OK {
		t.Errorf("Same of unlike sizes = %v, %d", same, err)
	}
}

func TestSameThatIsRefused(t *testing.T) { // P16.1
	big, bad, good := make([]api.Node, api.MaxNodes+1), nodes(l(1, -1, 0)), table.Empty()
	for _, c := range []struct {
		a, b []api.Node
		err  api.Errno
	}{
		{big, good, api.ErrBig}, {good, big, api.ErrBig}, {bad, good, api.ErrForm}, {good, bad, api.ErrForm}, {bad, big, api.ErrForm}, {big, bad, api.ErrBig}, {nil, big, api.ErrForm}, {bad, bad, api.ErrForm}, {nil, nil, api.ErrForm},
	} {
		if same, err := table.Same(c.a, c.b); same || err != c.err {
			t.Errorf("Same of %d and %d nodes = %v, %d, want %d", len(c.a), len(c.b), same, err, c.err)
		}
	}
}

// TestEachCallRefusesWhatCheckRefuses: with its error, and nothing else.
func TestEachCallRefusesWhatCheckRefuses(t *testing.T) { // P16.1, P16.2, P16.3, P16.4, P16.5
	good := table.Empty()
	for _, bad := range [][]api.Node{nil, nodes(l(1, -1, 0)), nodes(i(1, 1, 1, 2), i(1, 1, 1, 2), l(1, 1, 1)), nodes(l(1, 1, 1), i(1, 1, 2, 1), l(1, 1, 1)), make([]api.Node, api.MaxNodes), make([]api.Node, api.MaxNodes+1)} {
		want := table.Check(bad)
		if want == api.OK {
			t.Fatal("it isn't bad")
		}
		norm, e0 := table.Norm(bad)
		leaves, e1 := table.Leaves(bad)
		pairs, e2 := table.Pairs(bad)
		up, e3 := table.Parents(bad)
		high, e4 := table.Height(bad)
		path, e5 := table.Search(bad, 1)
		is, e6 := table.Ordered(bad)
		root, e7 := table.Root(bad)
		sub, e8 := table.Sub(bad, -1) // the table's error comes ahead of the place's
		out, e9 := table.Graft(bad, -1, bad)
		in, e10 := table.Graft(good, -1, bad)
		mirror, e11 := table.Mirror(bad)
		text, e12 := table.Text(bad)
		for k, got := range []api.Errno{e0, e1, e2, e3, e4, e5, e6, e7, e8, e9, e10, e11, e12} {
			if got != want {
				t.Errorf("call %d of %d nodes: %d, want %d", k, len(bad), got, want)
			}
		}
		if len(norm)+len(leaves)+len(pairs)+len(up)+high+len(path)+root+len(sub)+len(out)+len(in)+len(mirror)+len(text) != 0 || is {
			t.Errorf("beside the error of %d nodes something is answered", len(bad))
		}
	}
}
