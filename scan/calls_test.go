package scan_test

import (
	"math"
	"math/rand"
	"slices"
	"testing"

	"larch/api"
	"larch/baton"
	"larch/cell"
	"larch/chroma"
	"larch/llx"
	"larch/model"
	"larch/node"
	"larch/record"
	"larch/scan"
	"larch/seq"
	"larch/together"
)

// byName does the operation by the function of its kind.
func byName(g cell.Gate, entry *node.Node, o api.Op) api.Ret {
	var ret api.Ret
	var p api.Pair
	switch o.Kind {
	case api.Successor:
		p, ret.Ok = scan.Successor(g, entry, o.Key)
	case api.Predecessor:
		p, ret.Ok = scan.Predecessor(g, entry, o.Key)
	case api.Min:
		p, ret.Ok = scan.Min(g, entry)
	case api.Max:
		p, ret.Ok = scan.Max(g, entry)
	case api.Range:
		return api.Ret{Ok: true, Pairs: scan.Range(g, entry, o.Key, o.Hi)}
	default:
		ret, _ = scan.Do(g, entry, o)
		return ret
	}
	ret.Key, ret.Val = p.Key, p.Val
	return ret
}

// TestCallsByChance: all nine kinds on one tree, by Do and by name, without a gate and through a Tape.
func TestCallsByChance(t *testing.T) { // P23.1, P23.2
	r := rand.New(rand.NewSource(3))
	for range 300 {
		now := someFit(t, r, r.Intn(9))
		entry := entryOf(t, now)
		for _, o := range someOps(r, 50, 18, slices.Concat(changing, reading)...) {
			then, want, _, _ := seq.Do(now, o)
			tape := cell.NewTape()
			gates := []cell.Gate{nil, tape}
			which := r.Intn(2)
			var got api.Ret
			var e api.Errno
			if r.Intn(2) == 0 {
				got = byName(gates[which], entry, o)
			} else {
				got, e = scan.Do(gates[which], entry, o)
			}
			if list := tableOf(t, entry); !sameAnswer(got, want, e) || !slices.Equal(list, then) {
				t.Fatalf("%v on %s = %v, %d, want %v; it holds %s", o, keysOf(now), got, e, want, keysOf(list))
			}
			kinds := tape.Kinds()
			none := which == 0 || o.Kind == api.Range && o.Key > o.Hi
			if (len(kinds) == 0) != none || isRead(o.Kind) && slices.ContainsFunc(kinds, func(kind int) bool { return kind != api.Load }) {
				t.Fatalf("%v passes its gate with %v", o, kinds)
			}
			now = then
		}
	}
}

func TestDoThatIsRefused(t *testing.T) { // P23.1
	list := below(t, "(2:1 (1:2=10) (2:2=20))")
	entry := entryOf(t, list)
	for _, kind := range noKinds() {
		tape := cell.NewTape()
		ret, e := scan.Do(tape, entry, api.Op{Kind: kind, Key: 1, Val: 7, Hi: 9})
		if e != api.ErrKind || !model.SameRet(ret, api.Ret{}) || len(tape.Kinds()) != 0 || !slices.Equal(tableOf(t, entry), list) {
			t.Errorf("Do of kind %d = %v, %d, kinds %v", kind, ret, e, tape.Kinds())
		}
	}
}

// meddler is a gate at which something else happens ahead of the accesses of some numbers.
type meddler struct {
	cell.Tape
	at   []int
	what func(n int)
}

func (m *meddler) Pass(kind int) {
	if n := slices.Index(m.at, len(m.Kinds())); n >= 0 {
		m.what(n)
	}
	m.Tape.Pass(kind)
}

// TestReadsThatAreMeddledWith: a change comes, all of it, ahead of each access of a read: the answer is that of the map ahead of it, or behind it.
func TestReadsThatAreMeddledWith(t *testing.T) { // P23.3
	start := below(t, "(6:1 (4:1 (2:1=20) (4:1=40)) (8:1 (6:1=60) (8:1=80)))")
	map1 := pairsIn(t, start)
	both := [2]int{}
	again := map[int]int{}
	for _, o := range readOps(1, 9) {
		for key := 1; key <= 9; key++ {
			for _, other := range ops(put(key, 7), del(key)) {
				map2, _, _ := model.Do(map1, other)
				_, want1, _ := model.Do(map1, o)
				_, want2, _ := model.Do(map2, o)
				alone, _ := scan.Tries(start, o)
				for at := range alone {
					entry := entryOf(t, start)
					m := &meddler{at: []int{at}, what: func(int) { _, _ = chroma.Do(nil, entry, other) }}
					got := byName(m, entry, o)
					ahead, behind := model.SameRet(got, want1), model.SameRet(got, want2)
					if !ahead && !behind {
						t.Fatalf("%v, ahead of its access %d %v: %v, want %v or %v", o, at, other, got, want1, want2)
					}
					if at == 0 && !behind {
						t.Fatalf("%v behind %v: %v, want %v", o, other, got, want2)
					}
					if ahead != behind && behind {
						both[1]++
					} else if ahead != behind {
						both[0]++
					}
					if len(m.Kinds()) > alone {
						again[o.Kind]++
					}
				}
			}
		}
	}
	for _, kind := range []int{api.Successor, api.Predecessor, api.Min, api.Max, api.Range} {
		if again[kind] < 50 {
			t.Errorf("kind %d was disturbed %d times: the test sees too little", kind, again[kind])
		}
	}
	if both[0] < 50 || both[1] < 1000 {
		t.Errorf("%v answers of the one map and the other: the test sees too little", both)
	}
}

// TestReadsAndTwoChanges: two changes come ahead of two accesses of a read: the answer is that of one of the three maps; also where the second change undoes the first one.
func TestReadsAndTwoChanges(t *testing.T) { // P23.3
	r := rand.New(rand.NewSource(4))
	undone, middle := 0, 0
	for range 40000 {
		start := someFit(t, r, 1+r.Intn(7))
		o := someOps(r, 1, 14, reading...)[0]
		if o.Kind == api.Get || o.Kind == api.Range && o.Key > o.Hi {
			continue
		}
		changes := someOps(r, 2, 14, changing...)
		map0 := pairsIn(t, start)
		if r.Intn(2) == 0 {
			changes[1] = undoing(map0, changes[0])
		}
		map1, _, _ := model.Do(map0, changes[0])
		map2, _, _ := model.Do(map1, changes[1])
		alone, _ := scan.Tries(start, o)
		at := []int{r.Intn(alone)}
		var entry *node.Node
		maps := [][]api.Pair{map0}
		what := func(n int) {
			_, _ = chroma.Do(nil, entry, changes[n])
			maps = append(maps, [][]api.Pair{map1, map2}[n])
		}
		m := &meddler{at: at, what: what}
		entry = entryOf(t, start)
		_ = byName(m, entry, o) // with the first change alone: to know how many accesses that takes
		rest := len(m.Kinds()) - at[0] - 1
		if rest == 0 {
			continue
		}
		at = append(at, at[0]+1+rest-1-r.Intn(1+r.Intn(rest)))
		entry, maps = entryOf(t, start), maps[:1]
		m = &meddler{at: at, what: what}
		got := byName(m, entry, o)
		fits := make([]bool, len(maps))
		for i, now := range maps {
			fits[i], _ = model.Fits(now, o, got)
		}
		if !slices.Contains(fits, true) {
			t.Fatalf("%v on %s, ahead of its accesses %v %v: %v, which is of none of %v", o, keysOf(start), at, changes, got, maps)
		}
		if len(maps) == 3 && slices.Equal(map0, map2) && !slices.Equal(map0, map1) {
			undone++
		}
		if slices.Equal(fits, []bool{false, true, false}) {
			middle++
		}
	}
	if undone < 1000 || middle < 10 {
		t.Errorf("%d changes undone, %d answers from between: the test sees too little", undone, middle)
	}
}

// undoing: what brings the map back to what it was ahead of the change.
func undoing(m []api.Pair, o api.Op) api.Op {
	at, had, _ := model.Find(m, o.Key)
	if had {
		return put(o.Key, m[at].Val)
	}
	return del(o.Key)
}

// TestReadsOfOneMoment: games of several workers, the tree looked at ahead of each access: a read answers what the tree had at one of the moments between its first access and its last.
func TestReadsOfOneMoment(t *testing.T) { // P23.3
	r := rand.New(rand.NewSource(5))
	late := 0
	for range 300 {
		crew, keys := 2+r.Intn(5), 3+r.Intn(10)
		entry := entryOf(t, someFit(t, r, 1+keys/2))
		var maps [][]api.Pair // at all moments
		look := func() {
			pairs := pairsIn(t, tableOf(t, entry))
			if len(maps) == 0 || !slices.Equal(maps[len(maps)-1], pairs) {
				maps = append(maps, pairs)
			}
		}
		_, all, _ := baton.Finish(crew, somePicks(r, crew, 2000), 300000, func(worker int, g cell.Gate) {
			gate := moment{gate: g, look: look}
			kinds := reading
			if worker%2 == 1 {
				kinds = changing
			}
			for _, o := range someOps(r, 3, 2*keys, kinds...) {
				gate.Pass(api.Start)
				look()
				from := len(maps) - 1
				ret, _ := scan.Do(gate, entry, o)
				look()
				if !isRead(o.Kind) {
					continue
				}
				at := slices.IndexFunc(maps[from:], func(m []api.Pair) bool { fits, _ := model.Fits(m, o, ret); return fits })
				if at < 0 {
					t.Errorf("%v = %v, of none of %v", o, ret, maps[from:])
				}
				if at > 0 {
					late++
				}
			}
		})
		if !all {
			t.Error("not all have ended")
		}
	}
	if late < 20 {
		t.Errorf("%d answers weren't of the first moment: the test sees too little", late)
	}
}

// moment is a gate ahead of which the tree is looked at.
type moment struct {
	gate cell.Gate
	look func()
}

func (m moment) Pass(kind int) {
	m.look()
	m.gate.Pass(kind)
}

// stalled: the entry of the tree in which a change was left standing ahead of its access of that number; false: it had ended by then.
func stalled(t *testing.T, start []api.Node, o api.Op, at int) (*node.Node, bool) {
	t.Helper()
	entry := entryOf(t, start)
	told, _ := baton.Run(1, times(at, 0), func(_ int, g cell.Gate) { _, _ = scan.Do(g, entry, o) })
	return entry, !told.Ended[0]
}

// TestReadsThatHelp: wherever a change was left standing, a read ends, and answers what the tree has then; if it found the change's SCX under way, it has brought it to its end, and begun none of its own.
func TestReadsThatHelp(t *testing.T) { // P23.3, P23.4
	helped, left := 0, 0
	start := below(t, "(6:1 (4:1 (2:1=20) (4:1=40)) (8:1 (6:1=60) (8:1=80)))")
	for _, change := range ops(put(4, 7), put(5, 7), ifAbsent(9, 7), del(2), del(8)) {
		for _, o := range ops(everything(), least(), greatest(), after(4), before(8), rangeOf(4, 6), rangeOf(9, 99)) {
			for at := 0; ; at++ {
				entry, stands := stalled(t, start, change, at)
				if !stands {
					break
				}
				was := pairsIn(t, tableOf(t, entry))
				tape := cell.NewTape()
				got := byName(tape, entry, o)
				is := pairsIn(t, tableOf(t, entry))
				if fits, _ := model.Fits(is, o, got); !fits {
					t.Fatalf("%v, with %v standing at %d: %v, of %v", o, change, at, got, is)
				}
				behind, _, _ := model.Do(was, change)
				if !slices.Equal(is, was) && !slices.Equal(is, behind) {
					t.Fatalf("%v, with %v standing at %d: from %v to %v", o, change, at, was, is)
				}
				writes := slices.ContainsFunc(tape.Kinds(), func(kind int) bool { return kind != api.Load })
				if !writes && !slices.Equal(is, was) {
					t.Fatalf("%v, with %v standing at %d: a change by Loads", o, change, at)
				}
				if writes {
					helped++
				} else {
					left++
				}
				again := cell.NewTape()
				if _, _ = scan.Do(again, entry, o); slices.ContainsFunc(again.Kinds(), func(kind int) bool { return kind != api.Load }) {
					t.Fatalf("%v once more: %v", o, again.Kinds())
				}
			}
		}
	}
	if helped < 100 || left < 100 {
		t.Errorf("%d helped, %d didn't: the test sees too little", helped, left)
	}
}

// TestReadsThatAreStarved: as long as something changes under a read, it goes on; when it is alone again, it ends.
func TestReadsThatAreStarved(t *testing.T) { // P23.3
	entry := entryOf(t, below(t, "(4:1 (2:1=20) (4:1=40))"))
	rounds := 0
	var m *meddler
	m = &meddler{at: []int{0}, what: func(int) {
		chroma.Put(nil, entry, 2, rounds)
		if rounds++; rounds < 200 {
			m.at[0] = len(m.Kinds()) + 1
		}
	}}
	if got := scan.Range(m, entry, 0, 9); rounds != 200 || !slices.Equal(got, pairsOf(2, 199, 4, 40)) {
		t.Errorf("behind %d changes: %v", rounds, got)
	}
}

// TestScanInACrowd: goroutines all at once, without a gate. One of them moves a pair upwards, by a Put of the next key and then a Delete of the old one; so at each moment there are one or two neighbours beside the pairs that stay.
func TestScanInACrowd(t *testing.T) { // P23.3
	const crowd, far = 6, 4000
	entry := node.Entry()
	stay := pairsOf(-2, 1, -1, 2, far+1, 3, far+2, 4)
	for _, p := range append(slices.Clone(stay), api.Pair{Key: 0, Val: 0}) {
		chroma.Put(nil, entry, p.Key, p.Val)
	}
	over := cell.NewMark(false)
	together.Run(crowd, func(who int) {
		if who == 0 {
			for key := 1; key <= far; key++ {
				chroma.Put(nil, entry, key, key)
				chroma.Delete(nil, entry, key-1)
			}
			over.Store(nil, true)
			return
		}
		for last, stop := 0, false; !stop; {
			stop = over.Load(nil)
			all := scan.Range(nil, entry, math.MinInt, math.MaxInt)
			n := len(all)
			if n != 5 && n != 6 || !slices.Equal(slices.Concat(all[:2], all[n-2:]), stay) {
				t.Errorf("Range = %v", all)
				return
			}
			low, high := all[2], all[n-3]
			if low.Key < last || high.Key-low.Key != n-5 || low.Val != low.Key || high.Val != high.Key {
				t.Errorf("from %d on: Range = %v", last, all)
				return
			}
			last = low.Key
			up, ok := scan.Successor(nil, entry, -1)
			down, okDown := scan.Predecessor(nil, entry, far+1)
			if !ok || !okDown || up.Key < last || up.Key > far || up.Val != up.Key || down.Key < up.Key || down.Key > far || down.Val != down.Key {
				t.Errorf("from %d on: Successor = %v, Predecessor = %v", last, up, down)
				return
			}
			first, _ := scan.Min(nil, entry)
			final, _ := scan.Max(nil, entry)
			if first != stay[0] || final != stay[3] {
				t.Errorf("Min = %v, Max = %v", first, final)
				return
			}
		}
	})
	if got := scan.Range(nil, entry, 0, far); !slices.Equal(got, pairsOf(far, far)) {
		t.Errorf("at the end: %v", got)
	}
}

// finalized: the node, taken out by an SCX.
func finalized(t *testing.T, n *node.Node) *node.Node {
	t.Helper()
	above := node.Inner(0, 1, 1, n, node.Leaf(0, 1, 1, 0))
	up, _ := llx.LLX(nil, above)
	l, _ := llx.LLX(nil, n)
	if !llx.SCX(nil, []llx.Linked[node.Item]{up, l}, []bool{false, true}, 0, 0, node.Leaf(9, 0, 1, 0)) {
		t.Fatal("it isn't taken out")
	}
	return n
}

// oddities: what is no tree, by names.
func oddities(t *testing.T) map[string]*node.Node {
	t.Helper()
	leaf := func() *node.Node { return node.Leaf(5, 0, 1, 50) }
	ring := node.Inner(0, 1, 1, nil, leaf())
	ring.Swing(nil, 0, nil, node.Inner(5, 0, 1, ring, ring))
	loop := node.Inner(5, 0, 1, leaf(), nil)
	loop.Swing(nil, 1, nil, loop)
	knot := leaf()
	for range 60 { // as many paths as 2 to the power of 60
		knot = node.Inner(5, 0, 1, knot, knot)
	}
	return map[string]*node.Node{
		"nil":                         nil,
		"a leaf":                      leaf(),
		"a sentinel":                  node.Leaf(0, 1, 1, 0),
		"no children":                 node.Inner(0, 1, 1, nil, nil),
		"one child":                   node.Inner(5, 0, 1, nil, leaf()),
		"a record without fields":     record.New(node.Item{Key: 5, Weight: 1}),
		"a zero record":               new(node.Node),
		"a zero record far down":      node.Inner(0, 1, 1, node.Inner(5, 0, 1, new(node.Node), leaf()), leaf()),
		"one field":                   node.Inner(0, 1, 1, record.New(node.Item{Key: 5, Weight: 1}, leaf()), leaf()),
		"three fields":                node.Inner(0, 1, 1, record.New(node.Item{Key: 5, Weight: 1}, leaf(), leaf(), leaf()), leaf()),
		"no crown":                    node.Inner(5, 0, 1, node.Leaf(1, 0, 1, 10), leaf()),
		"a ring":                      ring,
		"a ring to the right":         loop,
		"many paths":                  knot,
		"an entry that was taken out": finalized(t, node.Inner(0, 1, 1, leaf(), leaf())),
		"a node that was taken out":   node.Inner(0, 1, 1, finalized(t, node.Inner(5, 0, 1, leaf(), leaf())), leaf()),
		"a leaf that was taken out":   node.Inner(0, 1, 1, finalized(t, leaf()), leaf()),
	}
}

// TestOddities: no call panics, and each ends; what no tree can have isn't answered.
func TestOddities(t *testing.T) { // P23.1
	for name, entry := range oddities(t) {
		for _, o := range ops(everything(), rangeOf(5, 5), rangeOf(6, 9), rangeOf(7, 3), least(), greatest(), after(4), after(5), before(6), before(5), get(5)) {
			ret, e := scan.Do(nil, entry, o)
			if e != api.OK || !model.SameRet(ret, byName(nil, entry, o)) {
				t.Errorf("%s: %v = %v, %d", name, o, ret, e)
			}
			if name == "nil" && (len(ret.Pairs) != 0 || ret.Ok != (o.Kind == api.Range)) {
				t.Errorf("%v of nil = %v", o, ret)
			}
			for _, p := range ret.Pairs {
				if p != (api.Pair{Key: 5, Val: 50}) && p != (api.Pair{Key: 1, Val: 10}) {
					t.Errorf("%s: %v = %v", name, o, ret)
				}
			}
		}
	}
}

// TestRangeOfABigTree: more keys than a table can hold.
func TestRangeOfABigTree(t *testing.T) { // P23.1
	const keys = 3 * api.MaxNodes
	entry := node.Entry()
	list := make([]*node.Node, keys)
	for i := range list {
		list[i] = node.Leaf(i, 0, 1, -i)
	}
	firsts := make([]int, keys)
	for i := range firsts {
		firsts[i] = i
	}
	for len(list) > 1 {
		n := len(list) / 2
		for i := range n {
			list[i] = node.Inner(firsts[2*i+1], 0, 1, list[2*i], list[2*i+1])
			firsts[i] = firsts[2*i]
		}
		if len(list)%2 == 1 {
			list[n], firsts[n] = list[2*n], firsts[2*n]
			n++
		}
		list = list[:n]
	}
	crown := node.Inner(0, 1, 1, list[0], node.Leaf(0, 1, 1, 0))
	entry.Swing(nil, 0, node.Left(nil, entry), crown)
	all := scan.Range(nil, entry, math.MinInt, math.MaxInt)
	if len(all) != keys {
		t.Fatalf("%d pairs", len(all))
	}
	for i, p := range all {
		if p != (api.Pair{Key: i, Val: -i}) {
			t.Fatalf("place %d: %v", i, p)
		}
	}
	if p, ok := scan.Successor(nil, entry, keys/2); !ok || p.Key != keys/2+1 {
		t.Errorf("Successor = %v, %v", p, ok)
	}
	if _, e := node.Read(nil, entry); e != api.ErrBig {
		t.Errorf("Read: %d", e)
	}
}
