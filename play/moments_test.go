package play_test

import (
	"math"
	"math/rand"
	"slices"
	"testing"

	"larch/api"
	"larch/baton"
	"larch/event"
	"larch/model"
	"larch/play"
	"larch/table"
	"larch/weigh"
)

// moment is what a game is like behind so many picks, by playing that many.
type moment struct {
	list    []api.Node
	history []api.Event
}

func momentsOf(t *testing.T, g play.Game) []moment {
	t.Helper()
	moments := make([]moment, len(g.Picks)+1)
	for k := range moments {
		p := wantRun(t, wantFirst(t, g, k))
		moments[k] = moment{p.Table, p.History}
	}
	return moments
}

// wantMoments: Tables and Changes of a game, and all that is promised of them.
func wantMoments(t *testing.T, g play.Game) ([]moment, []play.Change) {
	t.Helper()
	moments, tables := momentsOf(t, g), wantTables(t, g)
	for k, m := range moments {
		if !slices.Equal(tables[k], m.list) {
			t.Fatalf("table %d of %v: %v, want %v", k, g, tables[k], m.list)
		}
		wantTree(t, m.list, pendingOf(m.history))
	}
	changes, e := play.Changes(g)
	if want := changesIn(t, moments); e != api.OK || !slices.Equal(changes, want) {
		t.Fatalf("Changes(%v) = %v, %d, want %v", g, changes, e, want)
	}
	wantOwners(t, moments, changes)
	return moments, changes
}

// changesIn: as the chapter says, key by key.
func changesIn(t *testing.T, moments []moment) []play.Change {
	t.Helper()
	var changes []play.Change
	for pick := range len(moments) - 1 {
		ahead, behind := pairsIn(t, moments[pick].list), pairsIn(t, moments[pick+1].list)
		var keys []int
		for _, p := range slices.Concat(ahead, behind) {
			keys = append(keys, p.Key)
		}
		slices.Sort(keys)
		for _, key := range slices.Compact(keys) {
			c := play.Change{Pick: pick, Key: key}
			for _, p := range ahead {
				if p.Key == key {
					c.Had, c.Was = true, p.Val
				}
			}
			for _, p := range behind {
				if p.Key == key {
					c.Has, c.Is = true, p.Val
				}
			}
			if c.Had != c.Has || c.Was != c.Is {
				changes = append(changes, c)
			}
		}
	}
	return changes
}

// owns: can the change be that of the operation, by its kind, and by its answer, if it has returned?
func owns(c event.Call, x play.Change) bool {
	if c.Op.Key != x.Key {
		return false
	}
	answered := api.Ret{Ok: x.Had, Val: x.Was}
	switch c.Op.Kind {
	case api.Put:
		if !x.Has || x.Is != c.Op.Val {
			return false
		}
	case api.PutIfAbsent:
		if x.Had || !x.Has || x.Is != c.Op.Val {
			return false
		}
		answered = api.Ret{Ok: true}
	case api.Delete:
		if !x.Had || x.Has {
			return false
		}
	default:
		return false
	}
	return c.To < 0 || model.SameRet(c.Ret, answered)
}

// mustChange: has the operation returned, and one change, by its answer?
func mustChange(c event.Call) bool {
	if c.To < 0 {
		return false
	}
	switch c.Op.Kind {
	case api.Put:
		return !c.Ret.Ok || c.Ret.Val != c.Op.Val
	case api.PutIfAbsent, api.Delete:
		return c.Ret.Ok
	}
	return false
}

// matched: can each of the lefts have a right of its own?
func matched(lefts, rights int, fits func(l, r int) bool) bool {
	has := slices.Repeat([]int{-1}, rights)
	for l := range lefts {
		seen := make([]bool, rights)
		var place func(l int) bool
		place = func(l int) bool {
			for r := range rights {
				if fits(l, r) && !seen[r] {
					seen[r] = true
					if has[r] == -1 || place(has[r]) {
						has[r] = l
						return true
					}
				}
			}
			return false
		}
		if !place(l) {
			return false
		}
	}
	return true
}

// wantOwners: P25.5. If each change can have an operation of its own, and each operation that must have one can have a change of its own, both can be so at once.
func wantOwners(t *testing.T, moments []moment, changes []play.Change) {
	t.Helper()
	for i := 1; i < len(changes); i++ {
		if changes[i-1].Pick >= changes[i].Pick {
			t.Fatalf("%v: one pick has changed two keys", changes)
		}
	}
	calls, _ := event.Calls(moments[len(moments)-1].history)
	var owing []event.Call
	for _, c := range calls {
		if mustChange(c) {
			owing = append(owing, c)
		}
	}
	isPending := func(c event.Call, pick int) bool { // ahead of the pick
		events := len(moments[pick].history)
		return c.From < events && (c.To < 0 || c.To >= events)
	}
	fits := func(c event.Call, x play.Change) bool {
		return isPending(c, x.Pick) && owns(c, x) && (c.To < 0 || mustChange(c))
	}
	if !matched(len(changes), len(calls), func(l, r int) bool { return fits(calls[r], changes[l]) }) {
		t.Fatalf("%v: one is nobody's of %v", changes, calls)
	}
	if !matched(len(owing), len(changes), func(l, r int) bool { return fits(owing[l], changes[r]) }) {
		t.Fatalf("%v: there is none for one of %v", changes, owing)
	}
}

func TestChangesByExample(t *testing.T) { // P25.5
	_, changes := wantMoments(t, game(pairsOf(1, 10), threads(ops(del(1), put(1, 20))), times(300, 0)...))
	if len(changes) != 2 || changes[0].Pick >= changes[1].Pick {
		t.Fatalf("example 6: %v", changes)
	}
	changes[0].Pick, changes[1].Pick = 0, 0
	if !slices.Equal(changes, []play.Change{{Key: 1, Had: true, Was: 10}, {Key: 1, Has: true, Is: 20}}) {
		t.Errorf("example 6: %v", changes)
	}
}

// TestChangesOfOne: what changes, and what doesn't.
func TestChangesOfOne(t *testing.T) { // P25.5
	start := pairsOf(1, 10, 2, 20, 3, 0)
	for i, c := range []struct {
		script []api.Op
		want   []play.Change
	}{
		{ops(put(1, 10)), nil},
		{ops(ifAbsent(1, 11)), nil},
		{ops(ifAbsent(1, 10)), nil},
		{ops(del(9)), nil},
		{ops(get(1), least(), greatest(), everything()), nil},
		{ops(put(1, 11)), []play.Change{{Key: 1, Had: true, Has: true, Was: 10, Is: 11}}},
		{ops(put(1, 0)), []play.Change{{Key: 1, Had: true, Has: true, Was: 10, Is: 0}}},
		{ops(put(4, 0)), []play.Change{{Key: 4, Has: true}}},
		{ops(ifAbsent(4, 40)), []play.Change{{Key: 4, Has: true, Is: 40}}},
		{ops(del(3)), []play.Change{{Key: 3, Had: true}}},
		{ops(put(2, 21), put(2, 22), put(2, 22)), []play.Change{{Key: 2, Had: true, Has: true, Was: 20, Is: 21}, {Key: 2, Had: true, Has: true, Was: 21, Is: 22}}},
		{ops(del(2), del(2), ifAbsent(2, 7), ifAbsent(2, 8)), []play.Change{{Key: 2, Had: true, Was: 20}, {Key: 2, Has: true, Is: 7}}},
		{ops(put(math.MinInt, 5), put(math.MaxInt, 6)), []play.Change{{Key: math.MinInt, Has: true, Is: 5}, {Key: math.MaxInt, Has: true, Is: 6}}},
	} {
		_, changes := wantMoments(t, game(start, threads(c.script), times(400, 0)...))
		for at := range changes {
			changes[at].Pick = 0
		}
		if !slices.Equal(changes, c.want) {
			t.Errorf("row %d: %v, want %v", i, changes, c.want)
		}
	}
}

// TestMomentsByChance: at every length of the picks.
func TestMomentsByChance(t *testing.T) { // P25.4, P25.5
	r := rand.New(rand.NewSource(6))
	owing, changed, midst := 0, 0, 0
	for range 50 {
		g := someGame(r, 5, 5, 400)
		moments, changes := wantMoments(t, g)
		for _, m := range moments {
			if faults, _ := weigh.Violations(m.list); faults > 0 {
				owing++
			}
			if len(m.history)%2 == 1 {
				midst++
			}
		}
		changed += len(changes)
	}
	if owing < 500 || changed < 80 || midst < 1000 {
		t.Errorf("%d tables with violations, %d changes, %d moments within operations: the test sees too little", owing, changed, midst)
	}
}

// helpedIn: how many changes were made by a pick of a thread that has no such operation pending.
func helpedIn(g play.Game, moments []moment, changes []play.Change) int {
	n := 0
	for _, x := range changes {
		calls, _ := event.Calls(moments[x.Pick].history)
		mine := func(c event.Call) bool { return c.To < 0 && c.Thread == g.Picks[x.Pick] && owns(c, x) }
		if !slices.ContainsFunc(calls, mine) {
			n++
		}
	}
	return n
}

// TestMomentsOfOneKey: changes of two and more threads on one key, with values that are all unlike, and with few.
func TestMomentsOfOneKey(t *testing.T) { // P25.5
	r := rand.New(rand.NewSource(7))
	changed, helped := 0, 0
	for round := range 60 {
		g := game(nil, make([][]api.Op, 2+r.Intn(3)))
		if r.Intn(2) == 0 {
			g.Start = pairsOf(1, -1)
		}
		val := 0
		for thread := range g.Scripts {
			for range 4 {
				val++
				v := val
				if round%2 == 0 {
					v = val % 2
				}
				g.Scripts[thread] = append(g.Scripts[thread], []api.Op{put(1, v), ifAbsent(1, v), del(1)}[r.Intn(3)])
			}
		}
		g.Picks = somePicks(r, len(g.Scripts), 400)
		moments, changes := wantMoments(t, g)
		changed += len(changes)
		helped += helpedIn(g, moments, changes)
	}
	if changed < 200 || helped < 5 {
		t.Errorf("%d changes, %d of them by others' picks: the test sees too little", changed, helped)
	}
}

// TestMomentsOfEachPlace: one thread goes on up to each of its accesses, then another one to its end, then the first one.
func TestMomentsOfEachPlace(t *testing.T) { // P25.4, P25.5
	start := pairsOf(2, 2, 1, 1, 3, 3, 4, 4)
	for i, a := range ops(put(5, 7), put(2, 7), ifAbsent(5, 7), del(1), del(2), everything()) {
		for j, b := range ops(put(5, 8), put(2, 2), del(2), del(1), ifAbsent(0, 8)) {
			whole := wantRun(t, game(start, threads(ops(a)), times(300, 0)...))
			steps := slices.IndexFunc(whole.Steps, func(s api.Step) bool { return s.Ended }) + 1
			for n := (i + j) % 11; n <= steps; n += 11 {
				moments, _ := wantMoments(t, game(start, threads(ops(a), ops(b)), slices.Concat(times(n, 0), times(120, 1), times(120, 0))...))
				if h := moments[len(moments)-1].history; pendingOf(h) != 0 {
					t.Fatalf("%v, %v, %d picks first: %v", a, b, n, h)
				}
			}
		}
	}
}

// TestTablesWithoutWork: no picks, and picks that do nothing; each is a table of its own.
func TestTablesWithoutWork(t *testing.T) { // P25.4
	start := pairsOf(3, 1, 2, 5, 3, 4)
	want := grown(t, start, nil)
	for _, g := range []play.Game{
		game(start, threads(nil)), game(start, threads(nil), 0, 1, -1, 7), game(start, make([][]api.Op, api.MaxThreads), 0, 63, 64),
		game(start, threads(ops(put(1, 1)))), game(start, threads(ops(put(1, 1)), nil), 1, 2, math.MaxInt, math.MinInt, 0),
	} {
		for k, list := range wantTables(t, g) {
			if !slices.Equal(list, want) {
				t.Errorf("table %d of %v: %v, want %v", k, g, list, want)
			}
		}
		if changes, e := play.Changes(g); e != api.OK || len(changes) != 0 {
			t.Errorf("Changes(%v) = %v, %d", g, changes, e)
		}
	}
	if tables := wantTables(t, game(nil, threads(nil))); !slices.Equal(tables[0], table.Empty()) {
		t.Errorf("of nothing: %v", tables)
	}
}

// TestMomentsAtTheLimits: MaxWalk picks and one above; 64 threads; MaxOps pairs.
func TestMomentsAtTheLimits(t *testing.T) { // P25.4, P25.5
	if play.MaxWalk != 2000 {
		t.Fatalf("MaxWalk = %d", play.MaxWalk)
	}
	g := game(make([]api.Pair, api.MaxOps), make([][]api.Op, api.MaxThreads))
	for i := range g.Start {
		g.Start[i] = api.Pair{Key: 7 * i, Val: i}
	}
	for thread := range g.Scripts {
		g.Scripts[thread] = ops(put(thread, 1), del(7*thread), everything())
	}
	g.Picks, _ = baton.Robin(api.MaxThreads, 32)
	over := g
	g.Picks, over.Picks = g.Picks[:play.MaxWalk], g.Picks[:play.MaxWalk+1]
	tables := wantTables(t, g)
	for _, k := range []int{0, 1, 999, 1500, 1999, 2000} {
		p := wantRun(t, wantFirst(t, g, k))
		if !slices.Equal(tables[k], p.Table) {
			t.Errorf("table %d isn't that of the first %d picks", k, k)
		}
		wantTree(t, tables[k], pendingOf(p.History))
	}
	if changes, e := play.Changes(g); e != api.OK || len(changes) == 0 {
		t.Errorf("Changes = %v, %d", changes, e)
	}
	if tables, e := play.Tables(over); e != api.ErrBig || len(tables) != 0 {
		t.Errorf("2001 picks: %d tables, %d", len(tables), e)
	}
	if changes, e := play.Changes(over); e != api.ErrBig || len(changes) != 0 {
		t.Errorf("2001 picks: %v, %d", changes, e)
	}
}
