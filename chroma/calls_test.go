package chroma_test

import (
	"math/rand"
	"slices"
	"testing"

	"larch/api"
	"larch/baton"
	"larch/cell"
	"larch/chroma"
	"larch/edit"
	"larch/model"
	"larch/node"
	"larch/record"
	"larch/seq"
	"larch/steps"
	"larch/table"
	"larch/together"
	"larch/weigh"
)

// byName does the operation by the function of its kind.
func byName(g cell.Gate, entry *node.Node, o api.Op) api.Ret {
	var ret api.Ret
	switch o.Kind {
	case api.Get:
		ret.Val, ret.Ok = node.Get(g, entry, o.Key)
	case api.Put:
		ret.Val, ret.Ok = chroma.Put(g, entry, o.Key, o.Val)
	case api.PutIfAbsent:
		ret.Val, ret.Ok = chroma.PutIfAbsent(g, entry, o.Key, o.Val)
	case api.Delete:
		ret.Val, ret.Ok = chroma.Delete(g, entry, o.Key)
	}
	return ret
}

func entryOf(t *testing.T, list []api.Node) *node.Node {
	t.Helper()
	entry, e := node.Make(list)
	if e != api.OK {
		t.Fatalf("%v can't be made", list)
	}
	return entry
}

func tableOf(t *testing.T, entry *node.Node) []api.Node {
	t.Helper()
	list, e := node.Read(nil, entry)
	if e != api.OK {
		t.Fatalf("the tree can't be read: %d", e)
	}
	return list
}

// TestCallsByChance: by Do and by name, without a gate and through a Tape; Clean too.
func TestCallsByChance(t *testing.T) { // P22.1
	r := rand.New(rand.NewSource(10))
	for range 200 {
		now := someFit(t, r, r.Intn(9))
		entry := entryOf(t, now)
		for _, o := range someOps(r, 40, 18) {
			then, want, _, _ := seq.Do(now, o)
			tape := cell.NewTape()
			gates := []cell.Gate{nil, tape}
			which := r.Intn(2)
			var got api.Ret
			var e api.Errno
			if r.Intn(2) == 0 {
				got = byName(gates[which], entry, o)
			} else {
				got, e = chroma.Do(gates[which], entry, o)
			}
			if r.Intn(4) == 0 {
				key := r.Intn(18)
				chroma.Clean(gates[which], entry, key)
				then, _, _, _ = seq.Clean(then, key, seq.MaxTurns)
			}
			if list := tableOf(t, entry); e != api.OK || !model.SameRet(got, want) || !slices.Equal(list, then) {
				t.Fatalf("%v on %s = %v, %d, want %v; it holds %s", o, keysOf(now), got, e, want, keysOf(list))
			}
			if (len(tape.Kinds()) > 0) != (which == 1) || slices.Contains(tape.Kinds(), api.Start) {
				t.Fatalf("%v passes its gate with %v", o, tape.Kinds())
			}
			now = then
		}
	}
}

func TestDoThatIsRefused(t *testing.T) { // P22.1
	before := below(t, "(2:1 (1:2=10) (2:2=20))")
	entry := entryOf(t, before)
	for _, kind := range noKinds() {
		tape := cell.NewTape()
		ret, e := chroma.Do(tape, entry, api.Op{Kind: kind, Key: 1, Val: 7, Hi: 9})
		if e != api.ErrKind || !model.SameRet(ret, api.Ret{}) || len(tape.Kinds()) != 0 || !slices.Equal(tableOf(t, entry), before) {
			t.Errorf("Do of kind %d = %v, %d, kinds %v", kind, ret, e, tape.Kinds())
		}
	}
}

// watch is a gate that tells in which order nodes are taken by an SCX.
type watch struct {
	nodes  []*node.Node // by their places
	infos  []*record.Scx[node.Item]
	frozen []int
}

func newWatch(entry *node.Node) *watch {
	w := &watch{}
	for ahead := []*node.Node{entry}; len(ahead) > 0; {
		n := ahead[0]
		ahead = ahead[1:]
		w.nodes, w.infos = append(w.nodes, n), append(w.infos, n.Info(nil))
		if !n.Data.Leaf {
			ahead = slices.Concat([]*node.Node{node.Left(nil, n), node.Right(nil, n)}, ahead)
		}
	}
	return w
}

func (w *watch) Pass(int) {
	for place, n := range w.nodes {
		if n.Info(nil) != w.infos[place] && !slices.Contains(w.frozen, place) {
			w.frozen = append(w.frozen, place)
		}
	}
}

// TestWhatAStepTakes: V in its order, of every step on both sides: the node above, and what layer 18 says is taken out; these are finalized, and no other node is.
func TestWhatAStepTakes(t *testing.T) { // P22.3
	seen := map[steps.Move]int{}
	for _, size := range []struct{ leaves, sum int }{{2, 3}, {3, 3}, {4, 3}, {5, 3}, {6, 2}} {
		for _, text := range allBelow(1, size.leaves, size.sum, 1) {
			list := below(t, text)
			parents, _ := table.Parents(list)
			for key := 0; key <= size.leaves; key++ {
				_, turns, _, _ := seq.Clean(list, key, seq.MaxTurns)
				if len(turns) != 1 {
					continue
				}
				seen[turns[0].Move]++
				out, _ := steps.Touched(list, turns[0].At, turns[0].Move)
				entry := entryOf(t, list)
				w := newWatch(entry)
				chroma.Clean(w, entry, key)
				if want := append([]int{parents[turns[0].At]}, out...); !slices.Equal(w.frozen, want) {
					t.Fatalf("%s, key %d, %v: takes %v, want %v", text, key, turns, w.frozen, want)
				}
				for place, n := range w.nodes {
					if n.Marked(nil) != slices.Contains(out, place) {
						t.Fatalf("%s, key %d, %v: place %d is marked: %v", text, key, turns, place, n.Marked(nil))
					}
				}
				wantKept(t, entry, w, out)
			}
		}
	}
	for _, m := range steps.All() {
		if m.Kind != steps.ROOT && seen[m] == 0 {
			t.Errorf("%v wasn't seen", m)
		}
	}
}

// wantKept: all nodes but those that were taken out are in the tree still, and these aren't.
func wantKept(t *testing.T, entry *node.Node, w *watch, out []int) {
	t.Helper()
	now := newWatch(entry).nodes
	for place, n := range w.nodes {
		if slices.Contains(now, n) == slices.Contains(out, place) {
			t.Fatalf("place %d: is it in the tree: %v", place, slices.Contains(now, n))
		}
	}
}

// moment is a gate ahead of which the tree is looked at.
type moment struct {
	gate cell.Gate
	look func()
}

func (m moment) Pass(kind int) {
	m.look()
	m.gate.Pass(kind)
}

// TestEachMoment: behind every pick of games of several workers the tree is fit, owes no more than there are pending updates, and differs from the one before by at most one key.
func TestEachMoment(t *testing.T) { // P22.3, P22.4
	r := rand.New(rand.NewSource(11))
	most := 0
	for range 250 {
		crew, keys := 2+r.Intn(6), 3+r.Intn(14)
		entry := entryOf(t, someClean(r, keys))
		before, _ := table.Pairs(tableOf(t, entry))
		pending := 0
		look := func() {
			list, _ := node.Read(nil, entry)
			if seq.Check(list) != api.OK {
				t.Errorf("%s isn't fit", keysOf(list))
			}
			faults, _ := weigh.Violations(list)
			fits, _ := weigh.Fits(list)
			if faults > pending || pending == 0 && !fits {
				t.Errorf("%s: %d violations, %d updates are pending, fits %v", keysOf(list), faults, pending, fits)
			}
			pairs, _ := table.Pairs(list)
			if differ, _ := model.Differ(before, pairs); len(differ) > 1 {
				t.Errorf("from %v to %v", before, pairs)
			}
			before, most = pairs, max(most, faults)
		}
		picks := somePicks(r, crew, 3000)
		scripts := make([][]api.Op, crew)
		for w := range scripts {
			scripts[w] = someOps(r, 1+r.Intn(5), keys)
		}
		_, all, _ := baton.Finish(crew, picks, 300000, func(worker int, g cell.Gate) {
			gate := moment{gate: g, look: look}
			for _, o := range scripts[worker] {
				gate.Pass(api.Start)
				if o.Kind != api.Get {
					pending++
				}
				_, _ = chroma.Do(gate, entry, o)
				if o.Kind != api.Get {
					pending--
				}
			}
			look()
		})
		if !all {
			t.Error("not all have ended")
		}
	}
	if most < 3 {
		t.Errorf("at most %d violations: the test sees too little", most)
	}
}

// meddler is a gate at which something else happens ahead of the access of that number.
type meddler struct {
	cell.Tape
	at   int
	what func()
}

func (m *meddler) Pass(kind int) {
	if len(m.Kinds()) == m.at {
		m.what()
	}
	m.Tape.Pass(kind)
}

// bare: the tree's changes without their cleaning.
func bare(entry *node.Node) edit.Tree {
	return edit.Tree{Entry: entry, Weigh: func(above *node.Node, weight int) int {
		if above.Data.Inf == 1 {
			return 1
		}
		return weight
	}}
}

// TestCleaningThatIsMeddledWith: ahead of an access of a Clean another change comes, all of it, with its cleaning or without: the tree stays fit, the pairs are those of the change, and the path is clean, if nobody owes anything.
func TestCleaningThatIsMeddledWith(t *testing.T) { // P22.3
	r := rand.New(rand.NewSource(12))
	tries := 0
	for range 15000 {
		start := someFit(t, r, 2+r.Intn(6))
		key := r.Intn(14)
		tape := cell.NewTape()
		chroma.Clean(tape, entryOf(t, start), key)
		at := r.Intn(len(tape.Kinds()))
		o := someOps(r, 1, 14)[0]
		pairs, _ := table.Pairs(start)
		want, _, _ := model.Do(pairs, o)
		entry := entryOf(t, start)
		owes := r.Intn(3) > 0
		m := &meddler{at: at, what: func() {
			if owes {
				_, _ = edit.Do(bare(entry), nil, o)
			} else {
				_, _ = chroma.Do(nil, entry, o)
			}
		}}
		chroma.Clean(m, entry, key)
		list := tableOf(t, entry)
		wantFit(t, list)
		first, _ := weigh.First(list, key)
		if got, _ := table.Pairs(list); first != -1 && !owes || !slices.Equal(got, want) {
			t.Fatalf("Clean(%s, %d), ahead of its access %d %v: %s", keysOf(start), key, at, o, keysOf(list))
		}
		if len(m.Kinds()) > len(tape.Kinds()) {
			tries++
		}
	}
	if tries < 1000 {
		t.Errorf("%d were disturbed: the test sees too little", tries)
	}
}

// TestTreeInACrowd: goroutines all at once, without a gate: each key came as often as it went, or once more; no violation is left.
func TestTreeInACrowd(t *testing.T) { // P22.3, P22.4
	const crowd, each, keys = 8, 3000, 40
	entry := node.Entry()
	came := make([][keys]int, crowd)
	together.Run(crowd, func(who int) {
		r := rand.New(rand.NewSource(int64(who)))
		for range each {
			key := r.Intn(keys)
			switch r.Intn(5) {
			case 0:
				if _, had := chroma.Put(nil, entry, key, who); !had {
					came[who][key]++
				}
			case 1:
				if _, was := chroma.PutIfAbsent(nil, entry, key, who); was {
					came[who][key]++
				}
			case 2, 3:
				if _, had := chroma.Delete(nil, entry, key); had {
					came[who][key]--
				}
			case 4:
				if val, has := node.Get(nil, entry, key); has && (val < 0 || val >= crowd) {
					t.Errorf("Get(%d) = %d", key, val)
				}
			}
		}
	})
	wantFit(t, tableOf(t, entry))
	wantDebts(t, tableOf(t, entry), 0)
	for key := range keys {
		there := 0
		for who := range crowd {
			there += came[who][key]
		}
		_, has := node.Get(nil, entry, key)
		if there != 0 && there != 1 || has != (there == 1) {
			t.Errorf("key %d came %d times more than it went; is it there: %v", key, there, has)
		}
	}
}

// oddities: what is no fit tree, by names.
func oddities(t *testing.T) map[string]*node.Node {
	t.Helper()
	leaf := func(weight int) *node.Node { return node.Leaf(5, 0, weight, 50) }
	ring := node.Inner(0, 1, 1, nil, leaf(1))
	ring.Swing(nil, 0, nil, node.Inner(7, 0, 1, ring, ring))
	knot := node.Inner(9, 0, 1, nil, leaf(1))
	knot.Swing(nil, 0, nil, node.Inner(8, 0, 1, knot, knot))
	crowned := func(n *node.Node) *node.Node {
		return node.Inner(0, 1, 1, node.Inner(0, 1, 1, n, node.Leaf(0, 1, 1, 0)), node.Leaf(0, 1, 1, 0))
	}
	old := node.Inner(0, 1, 1, node.Inner(0, 1, 1, node.Inner(9, 0, 1, leaf(2), leaf(2)), leaf(1)), leaf(1))
	gone := node.Left(nil, node.Left(nil, old))
	chroma.Clean(nil, old, 5) // which takes it out
	odd := map[string]*node.Node{
		"nil":                     nil,
		"a leaf":                  leaf(2),
		"no children":             node.Inner(0, 1, 1, nil, nil),
		"a record without fields": record.New(node.Item{Key: 5, Weight: 2}),
		"a zero record":           new(node.Node),
		"a ring":                  ring,
		"a ring far down":         crowned(knot),
		"no crown":                node.Inner(7, 0, 0, leaf(2), node.Inner(9, 0, 0, leaf(0), leaf(0))),
		"no sibling":              crowned(node.Inner(7, 0, 1, leaf(2), nil)),
		"one field":               crowned(record.New(node.Item{Key: 7, Weight: 1}, leaf(2))),
		"three fields":            crowned(record.New(node.Item{Key: 7, Weight: 1}, leaf(2), leaf(1), leaf(1))),
		"a weight below 0":        crowned(node.Inner(7, 0, 1, leaf(2), leaf(-3))),
		"a zero record beside it": crowned(node.Inner(7, 0, 1, leaf(2), new(node.Node))),
		"a node that is gone":     node.Inner(0, 1, 1, node.Inner(0, 1, 1, gone, leaf(1)), leaf(1)),
		"an entry that is gone":   gone,
	}
	for _, text := range unfit() {
		odd[text] = entryOf(t, below(t, text))
	}
	return odd
}

// unfit: trees of keys, not all of them even, with a violation on the path of the key 3 for which there is no step.
func unfit() []string {
	return []string{
		"(3:2=0)", "(5:2 (3:1=0) (5:1=0))", "(5:0 (3:0=0) (5:0=0))", "(5:0 (3:2=0) (5:0=0))", // at the crown
		"(5:1 (3:2=0) (5:1=0))",                             // PUSH
		"(5:1 (3:2=0) (5:0=0))",                             // RB1 or RB2 beside it
		"(4:1 (3:2=0) (5:0 (4:1=0) (5:1=0)))",               // W2
		"(4:1 (3:2=0) (6:0 (5:1 (4:0=0) (5:1=0)) (6:1=0)))", // W3
		"(4:1 (3:2=0) (5:1 (4:0=0) (5:1=0)))",               // W6
		"(5:1 (3:0 (2:1=0) (3:0=0)) (5:1=0))",               // RB2
		"(5:1 (4:0 (3:2=0) (4:0=0)) (5:1=0))",               // RB2, for an overweight
	}
}

// TestUnfit: where there is no step, nothing is done.
func TestUnfit(t *testing.T) { // P22.1
	for _, text := range unfit() {
		entry := entryOf(t, below(t, text))
		chroma.Clean(nil, entry, 3)
		if got := keysOf(tableOf(t, entry)); got != text {
			t.Errorf("Clean of %s: %s", text, got)
		}
	}
}

// TestOddities: no call panics, and each ends.
func TestOddities(t *testing.T) { // P22.1
	for _, key := range []int{1, 3, 4, 5, 6, 9, 10} {
		for kind := 0; kind <= api.Delete; kind++ {
			for name, entry := range oddities(t) {
				if kind == 0 {
					chroma.Clean(nil, entry, key)
				} else if _, e := chroma.Do(nil, entry, api.Op{Kind: kind, Key: key}); e != api.OK {
					t.Errorf("%s: %d", name, e)
				}
			}
		}
	}
}
