package edit_test

import (
	"slices"
	"testing"

	"larch/api"
	"larch/cell"
	"larch/edit"
	"larch/model"
	"larch/node"
	"larch/record"
	"larch/table"
)

// heavier: a rule that tells what it was asked: below a node with Inf 1 ten, else a hundred more.
func heavier(above *node.Node, weight int) int {
	if above.Data.Inf == 1 {
		return 10
	}
	return 100 + weight
}

func treeOf(t *testing.T, text string) (edit.Tree, []api.Node) {
	t.Helper()
	list, e := table.Read(text)
	if e != api.OK {
		t.Fatalf("%s can't be read", text)
	}
	entry, _ := node.Make(list)
	return edit.Tree{Entry: entry, Weigh: heavier}, list
}

func textOf(x edit.Tree) string {
	list, _ := node.Read(nil, x.Entry)
	text, _ := table.Text(list)
	return text
}

func crowned(keys string) string { return "(inf:1 (inf:1 " + keys + " (inf:1)) (inf:1))" }

func TestChanges(t *testing.T) { // P21.1, P22.1
	const four = "(5:3 (3:2 (1:4=10) (3:4=30)) (7:0 (5:6=50) (7:6=70)))"
	for _, c := range []struct {
		before string
		op     api.Op
		ret    api.Ret
		after  string
	}{
		{"(inf:1 (inf:1) (inf:1))", api.Op{Kind: api.Put, Key: 5, Val: 50}, api.Ret{}, "(inf:1 (inf:10 (5:1=50) (inf:1)) (inf:1))"},
		{"(inf:1 (inf:1) (inf:1))", api.Op{Kind: api.Delete, Key: 5}, api.Ret{}, "(inf:1 (inf:1) (inf:1))"},
		{crowned("(5:3=50)"), api.Op{Kind: api.Delete, Key: 5}, api.Ret{Ok: true, Val: 50}, "(inf:1 (inf:10) (inf:1))"},
		{crowned("(5:3=50)"), api.Op{Kind: api.Put, Key: 5, Val: 51}, api.Ret{Ok: true, Val: 50}, crowned("(5:3=51)")},
		{crowned("(5:3=50)"), api.Op{Kind: api.PutIfAbsent, Key: 4, Val: 40}, api.Ret{Ok: true}, crowned("(5:10 (4:1=40) (5:1=50))")},
		{crowned("(5:3=50)"), api.Op{Kind: api.PutIfAbsent, Key: 5, Val: 40}, api.Ret{Val: 50}, crowned("(5:3=50)")},
		{crowned("(5:3=50)"), api.Op{Kind: api.Put, Key: 6, Val: 60}, api.Ret{}, crowned("(6:10 (5:1=50) (6:1=60))")},
		{crowned(four), api.Op{Kind: api.Get, Key: 7}, api.Ret{Ok: true, Val: 70}, crowned(four)},
		{crowned(four), api.Op{Kind: api.Put, Key: 4, Val: 40}, api.Ret{}, crowned("(5:3 (3:2 (1:4=10) (4:103 (3:1=30) (4:1=40))) (7:0 (5:6=50) (7:6=70)))")},
		{crowned(four), api.Op{Kind: api.Put, Key: 7, Val: 71}, api.Ret{Ok: true, Val: 70}, crowned("(5:3 (3:2 (1:4=10) (3:4=30)) (7:0 (5:6=50) (7:6=71)))")},
		{crowned(four), api.Op{Kind: api.Delete, Key: 1}, api.Ret{Ok: true, Val: 10}, crowned("(5:3 (3:106=30) (7:0 (5:6=50) (7:6=70)))")},
		{crowned(four), api.Op{Kind: api.Delete, Key: 7}, api.Ret{Ok: true, Val: 70}, crowned("(5:3 (3:2 (1:4=10) (3:4=30)) (5:106=50))")},
		{crowned("(5:3 (3:9=30) (7:5 (5:6=50) (7:6=70)))"), api.Op{Kind: api.Delete, Key: 3}, api.Ret{Ok: true, Val: 30}, crowned("(7:10 (5:6=50) (7:6=70))")},
		{crowned("(9:1 (5:3 (3:9=30) (7:5 (5:6=50) (7:6=70))) (9:1=90))"), api.Op{Kind: api.Delete, Key: 3}, api.Ret{Ok: true, Val: 30}, crowned("(9:1 (7:108 (5:6=50) (7:6=70)) (9:1=90))")},
	} {
		x, _ := treeOf(t, c.before)
		if ret, e := edit.Do(x, nil, c.op); e != api.OK || !model.SameRet(ret, c.ret) || textOf(x) != c.after {
			t.Errorf("%v on %s = %v, %d, %s, want %v, %s", c.op, c.before, ret, e, textOf(x), c.ret, c.after)
		}
	}
}

// watch is a gate that tells in which order nodes are taken by an SCX.
type watch struct {
	nodes  []*node.Node // by their places
	infos  []*record.Scx[node.Item]
	frozen []int
}

func newWatch(entry *node.Node) *watch {
	w := &watch{}
	for ahead := []*node.Node{entry}; len(ahead) > 0; {
		n := ahead[0]
		ahead = ahead[1:]
		w.nodes, w.infos = append(w.nodes, n), append(w.infos, n.Info(nil))
		if !n.Data.Leaf {
			ahead = slices.Concat([]*node.Node{node.Left(nil, n), node.Right(nil, n)}, ahead)
		}
	}
	return w
}

func (w *watch) Pass(int) {
	for place, n := range w.nodes {
		if n.Info(nil) != w.infos[place] && !slices.Contains(w.frozen, place) {
			w.frozen = append(w.frozen, place)
		}
	}
}

// TestWhatIsTaken: V of each change in its order, and what it finalizes.
func TestWhatIsTaken(t *testing.T) { // P21.2, P22.3
	for _, text := range []string{"(inf:1 (inf:1) (inf:1))", crowned("(5:1=50)"), crowned("(5:1 (3:1 (1:1=10) (3:1=30)) (7:1 (5:1=50) (7:1=70)))"), crowned("(5:1 (3:1=30) (7:1 (5:1=50) (7:1=70)))")} {
		for key := range 9 {
			for _, kind := range []int{api.Get, api.Put, api.PutIfAbsent, api.Delete} {
				x, list := treeOf(t, text)
				path, _ := table.Search(list, key)
				there := list[path[len(path)-1]].Inf == 0 && list[path[len(path)-1]].Key == key
				var want []int
				switch {
				case kind == api.Put, kind == api.PutIfAbsent && !there:
					want = path[len(path)-2:]
				case kind == api.Delete && there:
					q, p := path[len(path)-3], path[len(path)-2]
					want = []int{q, p, list[p].Left, list[p].Right}
				}
				w := newWatch(x.Entry)
				_, _ = edit.Do(x, w, api.Op{Kind: kind, Key: key})
				w.Pass(0)
				if !slices.Equal(w.frozen, want) {
					t.Errorf("%s, kind %d, key %d: takes %v, want %v", text, kind, key, w.frozen, want)
				}
				for place, n := range w.nodes {
					if n.Marked(nil) != slices.Contains(want[min(1, len(want)):], place) {
						t.Errorf("%s, kind %d, key %d: place %d is marked: %v", text, kind, key, place, n.Marked(nil))
					}
				}
			}
		}
	}
}

func TestOps(t *testing.T) { // P21.1, P22.1
	x, _ := treeOf(t, "(inf:1 (inf:1) (inf:1))")
	script := []api.Op{{Kind: api.Put, Key: 1, Val: 10}, {Kind: api.Get, Key: 1}, {Kind: api.Delete, Key: 1}, {Kind: api.Get, Key: 1}}
	if rets := edit.All(x, script); !slices.EqualFunc(rets, []api.Ret{{}, {Ok: true, Val: 10}, {Ok: true, Val: 10}, {}}, model.SameRet) {
		t.Errorf("All = %v", rets)
	}
	kinds := edit.Tape(x, script)
	if len(kinds) < 8 || !slices.Equal(kinds[len(kinds)-2:], []int{api.Start, api.Load}) || kinds[0] != api.Start {
		t.Errorf("Tape = %v", kinds)
	}
	for kind := range 12 {
		want := api.OK
		if kind < api.Get || kind > api.Delete {
			want = api.ErrKind
		}
		if e := edit.Kinds(api.Delete, script, []api.Op{{Kind: api.Get}, {Kind: kind}}); e != want {
			t.Errorf("Kinds of kind %d = %d", kind, e)
		}
		if _, e := edit.Do(x, nil, api.Op{Kind: kind}); e != want {
			t.Errorf("Do of kind %d = %d", kind, e)
		}
	}
}

// finalized: a node with these children that an SCX has taken out.
func finalized(n *node.Node) *node.Node {
	k := edit.NewLinker(nil)
	above, _ := k.Link(node.Inner(0, 1, 1, n, node.Leaf(0, 1, 1, 0)))
	l, _ := k.Link(n)
	k.Swap([]edit.Linked{above, l}, 5, node.Leaf(9, 0, 1, 0))
	return n
}

// oddities: what is no tree, by names.
func oddities() map[string]*node.Node {
	leaf := func() *node.Node { return node.Leaf(5, 0, 1, 50) }
	inner := node.Item{Key: 5, Weight: 1}
	ring := node.Inner(0, 1, 1, nil, leaf())
	ring.Swing(nil, 0, nil, node.Inner(7, 0, 1, ring, ring))
	hollow := &node.Node{Data: node.Item{Key: 5, Weight: 1, Leaf: true}}
	return map[string]*node.Node{
		"nil":                              nil,
		"a leaf":                           leaf(),
		"no children":                      node.Inner(0, 1, 1, nil, nil),
		"a record without fields":          record.New(inner),
		"a zero record":                    new(node.Node),
		"a zero record as a child":         node.Inner(0, 1, 1, node.Inner(9, 0, 1, hollow, leaf()), leaf()),
		"one field":                        node.Inner(0, 1, 1, record.New(node.Item{Key: 9, Weight: 1}, leaf()), leaf()),
		"one field, a step above the leaf": node.Inner(0, 1, 1, record.New(node.Item{Key: 9, Weight: 1}, node.Inner(9, 0, 1, leaf(), leaf())), leaf()),
		"three fields":                     record.New(node.Item{Inf: 1, Weight: 1}, record.New(inner, leaf(), leaf(), leaf()), leaf(), leaf()),
		"a sibling that is nil":            node.Inner(0, 1, 1, node.Inner(9, 0, 1, leaf(), nil), leaf()),
		"no crown":                         node.Inner(9, 0, 1, leaf(), leaf()),
		"a ring":                           ring,
		"an entry that was taken out":      finalized(node.Inner(0, 1, 1, node.Inner(9, 0, 1, leaf(), leaf()), leaf())),
		"a node that was taken out":        node.Inner(0, 1, 1, finalized(node.Inner(9, 0, 1, leaf(), leaf())), leaf()),
		"a leaf that was taken out":        node.Inner(0, 1, 1, node.Inner(9, 0, 1, finalized(leaf()), leaf()), leaf()),
	}
}

// TestOddities: no call panics, and each ends; where nothing can be done, the answer is zero.
func TestOddities(t *testing.T) { // P21.1, P22.1
	for _, key := range []int{4, 5, 6, 9, 10} {
		for kind := api.Get; kind <= api.Delete; kind++ {
			for name, entry := range oddities() {
				ret, e := edit.Do(edit.Tree{Entry: entry, Weigh: heavier}, nil, api.Op{Kind: kind, Key: key})
				if e != api.OK || name == "nil" && !model.SameRet(ret, api.Ret{}) {
					t.Errorf("%s: %v, %d", name, ret, e)
				}
			}
		}
	}
}

// TestHopeless: a link that is refused by the same SCX again and again; not one that another SCX refuses.
func TestHopeless(t *testing.T) { // P21.2, P22.3
	dead, other := finalized(node.Leaf(5, 0, 1, 50)), finalized(node.Leaf(6, 0, 1, 60))
	k := edit.NewLinker(nil)
	for i, n := range []*node.Node{dead, dead, other, dead, other, other, other} {
		if _, ok := k.Link(n); ok || k.Hopeless() != (i == 6) {
			t.Errorf("refusal %d: linked %v, hopeless %v", i, ok, k.Hopeless())
		}
	}
	k = edit.NewLinker(nil)
	n := node.Leaf(5, 0, 1, 50)
	for range 10 { // each time another SCX has the node, and is brought to its end
		info := n.Info(nil)
		n.Freeze(nil, info, record.NewScx([]*node.Node{n}, []*record.Scx[node.Item]{info}, []bool{false}, 0, 0, nil, nil))
		if _, ok := k.Link(n); ok || k.Hopeless() {
			t.Fatalf("an SCX in progress: linked %v, hopeless %v", ok, k.Hopeless())
		}
	}
	if l, ok := k.Link(n); !ok || l.R != n {
		t.Error("behind all SCXs the node isn't linked")
	}
}

// TestCopy: the contents and the children, another weight.
func TestCopy(t *testing.T) { // P22.3
	left, right := node.Leaf(1, 0, 1, 10), node.Leaf(5, 0, 1, 50)
	for _, n := range []*node.Node{left, node.Inner(5, 0, 3, left, right), node.Leaf(0, 1, 1, 0)} {
		l, _ := edit.NewLinker(nil).Link(n)
		c := edit.Copy(l, 7)
		want := n.Data
		want.Weight = 7
		if c == n || c.Data != want || c.Len() != n.Len() || node.Left(nil, c) != node.Left(nil, n) || node.Right(nil, c) != node.Right(nil, n) {
			t.Errorf("the copy of %v is %v", n.Data, c.Data)
		}
	}
}

// TestLinkTo: only where the node leads to the child by which the path of the key goes on.
func TestLinkTo(t *testing.T) { // P21.2, P22.3
	left, right := node.Leaf(1, 0, 1, 10), node.Leaf(5, 0, 1, 50)
	n := node.Inner(5, 0, 1, left, right)
	for _, c := range []struct {
		key   int
		child *node.Node
		leads bool
	}{{4, left, true}, {5, right, true}, {4, right, false}, {5, left, false}, {4, nil, false}} {
		tape := cell.NewTape()
		k := edit.NewLinker(tape)
		if l, ok := k.LinkTo(n, c.key, c.child); ok != c.leads || ok && l.R != n || k.Hopeless() || len(tape.Kinds()) != 7 {
			t.Errorf("key %d: %v, %v, kinds %v", c.key, l, ok, tape.Kinds())
		}
	}
}

// TestRefusal: what a game on a table refuses, and in which order.
func TestRefusal(t *testing.T) { // P22.5, P23.3
	fit, uneven, heavy := crowned("(2:1 (1:1000=0) (2:1000=0))"), crowned("(2:1 (1:1=0) (2:2=0))"), crowned("(2:1 (1:1001=0) (2:1001=0))")
	get, ranged, none := []api.Op{{Kind: api.Get}}, []api.Op{{Kind: api.Range}}, []api.Op{{Kind: 10}}
	for i, c := range []struct {
		text    string
		scripts [][]api.Op
		picks   int
		last    int
		e, size api.Errno
	}{
		{fit, [][]api.Op{get}, api.MaxPicks, api.Delete, api.OK, api.OK},
		{fit, [][]api.Op{ranged}, 0, api.Range, api.OK, api.OK},
		{fit, [][]api.Op{get, ranged}, 0, api.Delete, api.ErrKind, api.OK},
		{fit, [][]api.Op{get, none}, 0, api.Range, api.ErrKind, api.OK},
		{heavy, [][]api.Op{get, none}, 0, api.Range, api.ErrKind, api.ErrBig},
		{uneven, [][]api.Op{none}, 0, api.Range, api.ErrForm, api.OK},
		{uneven, [][]api.Op{none}, api.MaxPicks + 1, api.Range, api.ErrBig, api.OK},
		{uneven, [][]api.Op{nil, make([]api.Op, api.MaxOps+1)}, 0, api.Range, api.ErrBig, api.OK},
		{fit, [][]api.Op{slices.Repeat(get, api.MaxOps)}, 0, api.Range, api.OK, api.OK},
		{uneven, nil, api.MaxPicks + 1, api.Range, api.ErrArg, api.OK},
		{fit, make([][]api.Op, api.MaxThreads), 0, api.Range, api.OK, api.OK},
		{fit, make([][]api.Op, api.MaxThreads+1), 0, api.Range, api.ErrArg, api.OK},
	} {
		_, list := treeOf(t, c.text)
		if e, size := edit.Refusal(list, c.scripts, make([]int, c.picks), c.last), edit.Size(list); e != c.e || size != c.size {
			t.Errorf("row %d: %d, %d, want %d, %d", i, e, size, c.e, c.size)
		}
	}
	if e := edit.Size(make([]api.Node, 10000)); e != api.OK {
		t.Errorf("10000 nodes: %d", e)
	}
	if e := edit.Size(make([]api.Node, 10001)); e != api.ErrBig {
		t.Errorf("10001 nodes: %d", e)
	}
}
