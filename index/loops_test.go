package index_test

import (
	"iter"
	"math"
	"math/rand"
	"slices"
	"testing"

	"larch/api"
	"larch/cell"
	"larch/index"
	"larch/model"
	"larch/seq"
)

// woven: what the chapter says of a loop, on the model: the pairs that are given, the answers, the map at the end.
func woven(start []api.Pair, way, from int, script []api.Op) (given []api.Pair, rets []api.Ret, now []api.Pair) {
	now = model.Of(start)
	moment := slices.Clone(now)
	key, ok := from, true
	for n := 0; ; n++ {
		var p api.Pair
		switch {
		case way == index.All && n < len(moment):
			p = moment[n]
		case way == index.Up:
			p, ok = nextUp(now, key, n == 0)
		case way == index.Down:
			p, ok = nextDown(now, key, n == 0)
		default:
			ok = false
		}
		if !ok {
			return given, rets, now
		}
		given, key = append(given, p), p.Key
		if n == len(script) {
			return given, rets, now
		}
		var ret api.Ret
		now, ret, _ = model.Do(now, script[n])
		rets = append(rets, ret)
	}
}

// nextUp: the least pair above the key, or, with first, at it.
func nextUp(m []api.Pair, key int, first bool) (api.Pair, bool) {
	for _, p := range m {
		if p.Key > key || first && p.Key == key {
			return p, true
		}
	}
	return api.Pair{}, false
}

func nextDown(m []api.Pair, key int, first bool) (api.Pair, bool) {
	for _, p := range slices.Backward(m) {
		if p.Key < key || first && p.Key == key {
			return p, true
		}
	}
	return api.Pair{}, false
}

func wantTake(t *testing.T, start []api.Pair, way, from, n int) {
	t.Helper()
	var want []api.Pair
	if n > 0 {
		want, _, _ = woven(start, way, from, slices.Repeat(ops(get(0)), n-1))
	}
	if got, e := index.Take(start, way, from, n); e != api.OK || !slices.Equal(got, want) {
		t.Fatalf("Take(%v, %d, %d, %d) = %v, %d, want %v", start, way, from, n, got, e, want)
	}
}

func wantWeave(t *testing.T, start []api.Pair, way, from int, script []api.Op) {
	t.Helper()
	given, rets, left := woven(start, way, from, script)
	got, answers, end, e := index.Weave(start, way, from, script)
	if e != api.OK || !slices.Equal(got, given) || !sameRets(answers, rets) || !slices.Equal(end, left) {
		t.Fatalf("Weave(%v, %d, %d, %v) = %v, %v, %v, %d, want %v, %v, %v", start, way, from, script, got, answers, end, e, given, rets, left)
	}
}

func TestTakeByExamples(t *testing.T) { // P24.2
	for _, c := range []struct {
		way, from, n int
		want         []api.Pair
		e            api.Errno
	}{
		{index.Up, 2, 9, same(2, 3), api.OK}, {index.Down, 2, 1, same(2), api.OK}, {index.All, 77, 2, same(1, 2), api.OK},
		{index.All, 0, 0, nil, api.OK}, {4, 0, 1, nil, api.ErrKind}, {index.Up, 0, -1, nil, api.ErrArg},
	} {
		if got, e := index.Take(same(1, 2, 3), c.way, c.from, c.n); e != c.e || !slices.Equal(got, c.want) {
			t.Errorf("example 2: Take(%d, %d, %d) = %v, %d", c.way, c.from, c.n, got, e)
		}
	}
}

func TestWeaveByExamples(t *testing.T) { // P24.2
	for i, c := range []struct {
		start  []api.Pair
		way    int
		script []api.Op
		given  []api.Pair
		rets   []api.Ret
		end    []api.Pair
	}{
		{same(1, 5), index.Up, ops(put(3, 3), del(5), get(9)), same(1, 3), []api.Ret{{}, {Ok: true, Val: 5}}, same(1, 3)},
		{same(1, 5), index.All, ops(put(3, 3), get(3)), same(1, 5), []api.Ret{{}, {Ok: true, Val: 3}}, same(1, 3, 5)},
		{same(1, 2, 3), index.Up, ops(get(1)), same(1, 2), []api.Ret{{Ok: true, Val: 1}}, same(1, 2, 3)},
		{same(1, 2, 3), index.Up, nil, same(1), nil, same(1, 2, 3)},
	} {
		given, rets, end, e := index.Weave(c.start, c.way, 0, c.script)
		if e != api.OK || !slices.Equal(given, c.given) || !sameRets(rets, c.rets) || !slices.Equal(end, c.end) {
			t.Errorf("example %d: %v, %v, %v, %d", 3+i, given, rets, end, e)
		}
	}
}

// TestTakeOfAllSmall: each way, from each key, so many, of small maps; the ends of the ints too.
func TestTakeOfAllSmall(t *testing.T) { // P24.2
	for _, start := range [][]api.Pair{nil, same(4), same(2, 4, 6), same(6, 2, 4, 2), same(math.MinInt, math.MaxInt), same(math.MinInt, math.MinInt+1, 0, math.MaxInt-1, math.MaxInt)} {
		for way := index.All; way <= index.Down; way++ {
			for _, from := range []int{math.MinInt, math.MinInt + 1, -1, 0, 1, 2, 3, 4, 5, 6, 7, math.MaxInt - 1, math.MaxInt} {
				for n := range 7 {
					wantTake(t, start, way, from, n)
				}
				wantTake(t, start, way, from, api.MaxOps)
			}
		}
	}
}

func TestTakeByChance(t *testing.T) { // P24.2
	r := rand.New(rand.NewSource(3))
	for range 2000 {
		wantTake(t, somePairs(r, 20), 1+r.Intn(3), someKey(r), r.Intn(20))
	}
	many := make([]int, api.MaxOps)
	for i := range many {
		many[i] = 7 * i % 2003
	}
	for way := index.All; way <= index.Down; way++ {
		wantTake(t, same(many...), way, 1000, api.MaxOps)
		wantTake(t, same(many...), way, math.MinInt, api.MaxOps)
		wantTake(t, same(many...), way, math.MaxInt, api.MaxOps)
	}
}

func TestWeaveByChance(t *testing.T) { // P24.2
	r := rand.New(rand.NewSource(4))
	for range 3000 {
		wantWeave(t, somePairs(r, 12), 1+r.Intn(3), someKey(r), someOps(r, r.Intn(12)))
	}
}

// TestWeaveAheadAndBehind: changes ahead of the loop, where Up and Down see them, behind it, and at the pair that was given.
func TestWeaveAheadAndBehind(t *testing.T) { // P24.2
	start := same(10, 20, 30, 40)
	for way := index.All; way <= index.Down; way++ {
		for _, from := range []int{math.MinInt, 10, 25, 40, math.MaxInt} {
			for key := 5; key <= 45; key += 5 {
				for _, o := range ops(put(key, 1), ifAbsent(key, 2), del(key)) {
					for n := range 4 {
						wantWeave(t, start, way, from, append(slices.Repeat(ops(least()), n), o, greatest(), everything(), get(key), get(key)))
					}
				}
			}
		}
	}
	var grow, shrink []api.Op
	for key := range api.MaxOps { // the loop never comes to the end of what grows ahead of it, but to that of the operations
		grow, shrink = append(grow, put(key+1, key)), append(shrink, put(-key-1, key))
	}
	wantWeave(t, same(0), index.Up, 0, grow)
	wantWeave(t, same(0), index.Down, 0, shrink)
	wantWeave(t, same(0), index.All, 0, grow)
	wantWeave(t, nil, index.Up, 0, grow)
}

func TestLoopsThatAreRefused(t *testing.T) { // P24.2
	big, long, bad := make([]api.Pair, api.MaxOps+1), slices.Repeat(ops(get(1)), api.MaxOps+1), ops(api.Op{Kind: 10})
	for _, way := range []int{0, -1, 4, 99, math.MinInt, math.MaxInt} {
		for _, n := range []int{0, 1, -1, api.MaxOps + 1} {
			if got, e := index.Take(big, way, 1, n); e != api.ErrKind || len(got) != 0 {
				t.Errorf("way %d, n %d: Take = %v, %d", way, n, got, e)
			}
		}
		if given, rets, end, e := index.Weave(big, way, 1, long); e != api.ErrKind || len(given)+len(rets)+len(end) != 0 {
			t.Errorf("way %d: Weave = %v, %v, %v, %d", way, given, rets, end, e)
		}
	}
	for _, c := range []struct {
		start []api.Pair
		n     int
		e     api.Errno
	}{
		{nil, -1, api.ErrArg}, {big, -1, api.ErrArg}, {nil, math.MinInt, api.ErrArg},
		{big, 0, api.ErrBig}, {big, 5, api.ErrBig}, {nil, api.MaxOps + 1, api.ErrBig}, {same(1), math.MaxInt, api.ErrBig},
		{big[1:], api.MaxOps, api.OK},
	} {
		for way := index.All; way <= index.Down; way++ {
			if got, e := index.Take(c.start, way, 1, c.n); e != c.e || e != api.OK && len(got) != 0 {
				t.Errorf("%d pairs, n %d: Take = %v, %d", len(c.start), c.n, got, e)
			}
		}
	}
	for _, c := range []struct {
		start  []api.Pair
		script []api.Op
		e      api.Errno
	}{
		{same(1), bad, api.ErrKind}, {big, bad, api.ErrKind}, {nil, append(slices.Clone(long), bad...), api.ErrKind}, {nil, append(ops(get(1)), bad...), api.ErrKind},
		{big, nil, api.ErrBig}, {nil, long, api.ErrBig}, {big, long, api.ErrBig}, {big[1:], long[1:], api.OK},
	} {
		for way := index.All; way <= index.Down; way++ {
			given, rets, end, e := index.Weave(c.start, way, 1, c.script)
			if e != c.e || e != api.OK && len(given)+len(rets)+len(end) != 0 {
				t.Errorf("%d pairs, %d operations: Weave = %v, %v, %v, %d", len(c.start), len(c.script), given, rets, end, e)
			}
		}
	}
	for _, kind := range noKinds() {
		if _, _, _, e := index.Weave(nil, index.Up, 0, ops(api.Op{Kind: kind})); e != api.ErrKind {
			t.Errorf("kind %d: Weave = %d", kind, e)
		}
	}
}

// iterators: each way to range over what h reaches; of Up and Down from in the midst.
func iterators(h *index.Handle) []iter.Seq2[int, int] {
	return []iter.Seq2[int, int]{h.All(), h.Up(math.MinInt), h.Up(20), h.Up(21), h.Down(math.MaxInt), h.Down(40), h.Down(39)}
}

// taken: the first n pairs; with n below 0, all.
func taken(seq iter.Seq2[int, int], n int) []api.Pair {
	var pairs []api.Pair
	for key, val := range seq {
		pairs = append(pairs, api.Pair{Key: key, Val: val})
		if len(pairs) == n {
			break
		}
	}
	return pairs
}

// TestLoopsThatAreLeft: at once, in the midst, never; and ranged over again: each time from the beginning.
func TestLoopsThatAreLeft(t *testing.T) { // P24.2
	start := same(10, 20, 30, 40, 50)
	h := index.Of(start).Handle(nil)
	wants := [][]api.Pair{start, start, start[1:], start[2:], same(50, 40, 30, 20, 10), same(40, 30, 20, 10), same(30, 20, 10)}
	for i, seq := range iterators(h) {
		for range 2 {
			for n := -1; n <= 6; n++ {
				want := wants[i]
				if n == 0 {
					continue
				}
				if n > 0 {
					want = want[:min(n, len(want))]
				}
				if got := taken(seq, n); !slices.Equal(got, want) {
					t.Errorf("iterator %d, left behind %d: %v, want %v", i, n, got, want)
				}
			}
		}
		var inner []api.Pair
		for outer := range seq { // within itself
			if outer == 30 {
				inner = taken(seq, -1)
			}
		}
		if !slices.Equal(inner, wants[i]) {
			t.Errorf("iterator %d within itself: %v", i, inner)
		}
	}
}

// TestAccessesOfALoop: none ahead of the loop; behind its being left none more; of Up and Down the next pair is asked only when the loop comes to it.
func TestAccessesOfALoop(t *testing.T) { // P24.2
	tape := cell.NewTape()
	h := index.Of(same(10, 20, 30, 40, 50)).Handle(tape)
	for i, seq := range iterators(h) {
		if len(tape.Kinds()) != 0 {
			t.Fatalf("iterator %d: %d accesses without a loop", i, len(tape.Kinds()))
		}
		counts := []int{0}
		for range seq {
			counts = append(counts, len(tape.Kinds()))
			if len(counts) == 4 {
				break
			}
		}
		if last := counts[len(counts)-1]; len(tape.Kinds()) != last {
			t.Errorf("iterator %d: %v accesses ahead of the pairs, and then %d", i, counts, len(tape.Kinds()))
		}
		if i == 0 && (counts[1] == 0 || counts[1] != counts[3]) || i > 0 && (counts[1] == 0 || counts[2] <= counts[1] || counts[3] <= counts[2]) {
			t.Errorf("iterator %d: %v accesses ahead of the pairs", i, counts)
		}
		if slices.ContainsFunc(tape.Kinds(), func(kind int) bool { return kind != api.Load }) {
			t.Errorf("iterator %d: %v", i, tape.Kinds())
		}
		*tape = *cell.NewTape()
	}
}

// TestLoopsAtTheEnds: they end at the ends of the ints.
func TestLoopsAtTheEnds(t *testing.T) { // P24.2
	lo, hi := math.MinInt, math.MaxInt
	h := index.Of(same(lo, 0, hi)).Handle(nil)
	for i, c := range []struct {
		seq  iter.Seq2[int, int]
		want []api.Pair
	}{
		{h.Up(hi), same(hi)}, {h.Up(hi - 1), same(hi)}, {h.Up(lo), same(lo, 0, hi)}, {h.Up(lo + 1), same(0, hi)},
		{h.Down(lo), same(lo)}, {h.Down(lo + 1), same(lo)}, {h.Down(hi), same(hi, 0, lo)}, {h.Down(hi - 1), same(0, lo)}, {h.All(), same(lo, 0, hi)},
	} {
		if got := taken(c.seq, -1); !slices.Equal(got, c.want) {
			t.Errorf("row %d: %v, want %v", i, got, c.want)
		}
	}
	empty := index.New().Handle(nil)
	for i, seq := range []iter.Seq2[int, int]{empty.All(), empty.Up(lo), empty.Up(hi), empty.Down(hi), empty.Down(lo)} {
		if got := taken(seq, -1); len(got) != 0 {
			t.Errorf("row %d of an empty map: %v", i, got)
		}
	}
}

// TestLoopsSeeWhatIsThen: All has the pairs of the moment at which its loop began, not of that at which it was asked for; Up and Down go by what is there when they come to it.
func TestLoopsSeeWhatIsThen(t *testing.T) { // P24.2
	m := index.Of(same(10, 20))
	mine, other := m.Handle(nil), m.Handle(nil)
	all, up, down := mine.All(), mine.Up(0), mine.Down(99)
	other.Put(15, 15)
	other.Delete(20)
	if got := taken(all, -1); !slices.Equal(got, same(10, 15)) {
		t.Errorf("All, asked for ahead of changes: %v", got)
	}
	if got := taken(up, -1); !slices.Equal(got, same(10, 15)) {
		t.Errorf("Up, asked for ahead of changes: %v", got)
	}
	if got := taken(down, -1); !slices.Equal(got, same(15, 10)) {
		t.Errorf("Down, asked for ahead of changes: %v", got)
	}
	var got []int
	for key := range all {
		got = append(got, key)
		other.Delete(10)
		other.Delete(15)
		other.Put(12, 12)
	}
	if !slices.Equal(got, []int{10, 15}) || !slices.Equal(taken(all, -1), same(12)) {
		t.Errorf("All, with changes within the loop: %v, and then %v", got, taken(all, -1))
	}
	got = nil
	for key, val := range mine.Up(0) {
		got = append(got, key, val)
		if key < 20 {
			other.Put(key+1, -key)
		}
		mine.Delete(key) // the loop's own handle may be used within it
	}
	if !slices.Equal(got, []int{12, 12, 13, -12, 14, -13, 15, -14, 16, -15, 17, -16, 18, -17, 19, -18, 20, -19}) {
		t.Errorf("Up, with changes within the loop: %v", got)
	}
}

// TestLoopsThatAreMeddledWith: a change comes ahead of each access of a loop over All: what is given is all of one moment.
func TestLoopsThatAreMeddledWith(t *testing.T) { // P24.2, P24.3
	start := same(1, 3, 5, 7)
	tape := cell.NewTape()
	taken(index.Of(start).Handle(tape).All(), -1)
	for _, o := range ops(put(2, 2), put(3, 9), del(1), del(7)) {
		then, _, _ := model.Do(start, o)
		for at := range tape.Kinds() {
			x := index.Of(start)
			m := &meddler{at: at, what: func() { _, _ = x.Handle(nil).Do(o) }}
			if got := taken(x.Handle(m).All(), -1); !slices.Equal(got, start) && !slices.Equal(got, then) {
				t.Errorf("%v ahead of access %d: %v", o, at, got)
			}
		}
	}
}

// TestLoopsAreOfTheirOwnMap: iterators of two maps, one within the other.
func TestLoopsAreOfTheirOwnMap(t *testing.T) { // P24.2, P24.6
	a, b := index.Of(same(1, 2, 3)), index.Of(same(10, 20))
	var got []int
	for x := range a.Handle(nil).Up(2) {
		for y := range b.Handle(nil).Down(15) {
			got = append(got, x*y)
			b.Handle(nil).Put(5, 5)
		}
	}
	want := grown(t, same(10, 20), ops(put(5, 5)))
	if list, _ := seq.Of(same(1, 2, 3)); !slices.Equal(got, []int{20, 10, 30, 15}) || !slices.Equal(a.Table(), list) || !slices.Equal(b.Table(), want) {
		t.Errorf("%v; %v; %v", got, a.Table(), b.Table())
	}
}
