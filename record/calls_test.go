package record_test

import (
	"slices"
	"testing"

	"larch/api"
	"larch/cell"
	"larch/record"
	"larch/together"
)

func TestNewByExample(t *testing.T) { // P12.2
	s := record.New("s")
	r := record.New("a", nil, s)
	if r.Len() != 2 || r.Get(nil, 0) != nil || r.Get(nil, 1) != s || r.Info(nil).State(nil) != record.Aborted || r.Marked(nil) {
		t.Error("a new record isn't as the chapter says")
	}
}

// TestFirstInfo: what a new record's info holds.
func TestFirstInfo(t *testing.T) { // P12.2
	s := record.New(5, nil, nil).Info(nil)
	if s.State(nil) != record.Aborted || s.AllFrozen(nil) || s.V != nil || s.Infos != nil || s.Fin != nil || s.At != 0 || s.Field != 0 || s.Old != nil || s.New != nil {
		t.Errorf("%v", s)
	}
}

// wantCalls: all calls, of records with data of any type, without a gate and through a Tape.
func wantCalls[T any](t *testing.T, is func(a, b T) bool, a, b T) {
	t.Helper()
	for _, gated := range []bool{false, true} {
		kinds, through := watch(gated)
		p, q := record.New(a), record.New(b)
		r := record.New(b, p, nil, q, p)
		if !is(p.Data, a) || !is(r.Data, b) || p.Len() != 0 || r.Len() != 4 {
			t.Fatalf("New: %v, %d fields; %v, %d fields", p.Data, p.Len(), r.Data, r.Len())
		}
		first := r.Info(through)
		x := record.NewScx([]*record.Record[T]{r, p}, []*record.Scx[T]{first, p.Info(nil)}, []bool{false, true}, 0, 2, q, p)
		did := []bool{
			r.Get(through, 0) == p, r.Get(through, 1) == nil, r.Get(through, 2) == q, r.Get(through, 3) == p,
			r.Swing(through, 2, q, p), !r.Swing(through, 2, q, nil), r.Get(nil, 2) == p, r.Swing(through, 1, nil, r), r.Get(nil, 1) == r, r.Swing(through, 0, p, nil), r.Get(nil, 0) == nil, r.Get(nil, 3) == p,
			r.Freeze(through, first, x), !r.Freeze(through, first, x), r.Info(through) == x, r.Freeze(through, x, first), r.Info(nil) == first,
			!r.Marked(through), markedBehind(r, through), !p.Marked(nil),
			x.State(through) == record.InProgress, committed(x, through), aborted(x, through),
			!x.AllFrozen(through), frozenBehind(x, through), !first.AllFrozen(nil), first.State(nil) == record.Aborted,
		}
		if at := slices.Index(did, false); at != -1 {
			t.Errorf("gated %v, data %v: call %d answers wrongly", gated, a, at)
		}
		want := []int{
			api.Load, api.Load, api.Load, api.Load, api.Load,
			api.Cas, api.Cas, api.Cas, api.Cas,
			api.Cas, api.Cas, api.Load, api.Cas,
			api.Load, api.Store, api.Load,
			api.Load, api.Store, api.Load, api.Store, api.Load,
			api.Load, api.Store, api.Load,
		}
		if gated && !slices.Equal(kinds(), want) {
			t.Errorf("data %v: kinds %v, want %v", a, kinds(), want)
		}
	}
}

// watch: a gate, and what it has noted.
func watch(gated bool) (func() []int, cell.Gate) {
	if !gated {
		return func() []int { return nil }, nil
	}
	tape := cell.NewTape()
	return tape.Kinds, tape
}

func markedBehind[T any](r *record.Record[T], g cell.Gate) bool {
	r.Mark(g)
	return r.Marked(g)
}

func committed[T any](s *record.Scx[T], g cell.Gate) bool {
	s.Commit(g)
	return s.State(g) == record.Committed
}

func aborted[T any](s *record.Scx[T], g cell.Gate) bool {
	s.Abort(g)
	return s.State(g) == record.Aborted
}

func frozenBehind[T any](s *record.Scx[T], g cell.Gate) bool {
	s.SetAllFrozen(g)
	return s.AllFrozen(g)
}

func same[T comparable](a, b T) bool { return a == b }

func TestCallsOfAllTypes(t *testing.T) { // P12.2
	one := 1
	wantCalls(t, same[int], 1, 0)
	wantCalls(t, same[string], "a", "")
	wantCalls(t, same[struct{}], struct{}{}, struct{}{})
	wantCalls(t, same[[2]float64], [2]float64{1, 2}, [2]float64{})
	wantCalls(t, same[*int], &one, nil)
	wantCalls(t, same[any], 1, nil)
	wantCalls(t, slices.Equal[[]int], []int{1}, nil)
	wantCalls(t, func(a, b map[int]int) bool { return len(a) == len(b) && a[1] == b[1] }, map[int]int{1: 1}, nil)
	wantCalls(t, func(a, b func() int) bool { return (a == nil) == (b == nil) }, func() int { return 1 }, nil)
}

func TestNewScx(t *testing.T) { // P12.2
	p, q := record.New(1), record.New(2)
	v, infos, fin := []*record.Record[int]{p, nil, q}, []*record.Scx[int]{nil, q.Info(nil), p.Info(nil)}, []bool{true, false, true}
	x := record.NewScx(v, infos, fin, 2, 7, p, q)
	if !slices.Equal(x.V, v) || !slices.Equal(x.Infos, infos) || !slices.Equal(x.Fin, fin) || x.At != 2 || x.Field != 7 || x.Old != p || x.New != q {
		t.Errorf("NewScx = %v", x)
	}
	if x.State(nil) != record.InProgress || x.AllFrozen(nil) {
		t.Errorf("state %d, all frozen %v", x.State(nil), x.AllFrozen(nil))
	}
	empty := record.NewScx[int](nil, nil, nil, -1, -2, nil, nil)
	if len(empty.V)+len(empty.Infos)+len(empty.Fin) != 0 || empty.At != -1 || empty.Field != -2 || empty.Old != nil || empty.New != nil || empty.State(nil) != record.InProgress {
		t.Errorf("NewScx of nothing = %v", empty)
	}
}

// TestIdentity: what is equal isn't the same.
func TestIdentity(t *testing.T) { // P12.3
	p, twin := record.New("s"), record.New("s")
	r := record.New("r", p, nil)
	if p == twin || p.Info(nil) == twin.Info(nil) || p.Info(nil) == r.Info(nil) || p.Info(nil) == nil {
		t.Error("two that were made apart are the same")
	}
	if r.Swing(nil, 0, twin, nil) || r.Swing(nil, 0, nil, twin) || r.Swing(nil, 1, p, twin) || r.Get(nil, 0) != p || r.Get(nil, 1) != nil {
		t.Error("a Swing from an equal record did something")
	}
	if !r.Swing(nil, 0, p, twin) || r.Swing(nil, 0, p, p) || r.Get(nil, 0) != twin {
		t.Error("a Swing to an equal record isn't seen")
	}
	x, like := record.NewScx(nil, nil, nil, 0, 0, p, p), record.NewScx(nil, nil, nil, 0, 0, p, p)
	if x == like {
		t.Error("two SCX-records that were made apart are the same")
	}
	first := p.Info(nil)
	if p.Freeze(nil, twin.Info(nil), x) || p.Freeze(nil, nil, x) || p.Freeze(nil, x, x) || p.Info(nil) != first {
		t.Error("a Freeze from another record's first info did something")
	}
	if !p.Freeze(nil, first, x) || p.Freeze(nil, like, first) || p.Info(nil) != x || !p.Freeze(nil, x, like) || p.Info(nil) != like {
		t.Error("a Freeze from an equal SCX-record did something, or one from the very one nothing")
	}
	if twin.Info(nil) == first || twin.Info(nil).State(nil) != record.Aborted {
		t.Error("the other record's info has changed")
	}
}

// TestFirstInfosAreApart: each is made for its record alone, of records without data too.
func TestFirstInfosAreApart(t *testing.T) { // P12.3
	var seen []*record.Scx[struct{}]
	var made []*record.Record[struct{}]
	for range 100 {
		r := record.New(struct{}{})
		if slices.Contains(made, r) || slices.Contains(seen, r.Info(nil)) {
			t.Fatal("two records, or their first infos, are the same")
		}
		made, seen = append(made, r), append(seen, r.Info(nil))
	}
	seen[0].Commit(nil)
	seen[0].SetAllFrozen(nil)
	if seen[1].State(nil) != record.Aborted || seen[1].AllFrozen(nil) {
		t.Error("first infos share their states")
	}
}

// TestWhatNeverChanges: data and named fields, whatever is done.
func TestWhatNeverChanges(t *testing.T) { // P12.4
	p, q := record.New("p"), record.New("q")
	r := record.New("r", p, q)
	first := r.Info(nil)
	x := record.NewScx([]*record.Record[string]{r, p}, []*record.Scx[string]{first, p.Info(nil)}, []bool{false, true}, 0, 1, q, p)
	y := record.NewScx([]*record.Record[string]{r}, []*record.Scx[string]{x}, []bool{true}, 0, 0, p, nil)
	deeds := []func(){
		func() { r.Swing(nil, 0, p, q) }, func() { r.Swing(nil, 1, q, nil) }, func() { r.Freeze(nil, first, x) }, func() { p.Freeze(nil, p.Info(nil), x) }, func() { r.Freeze(nil, x, y) },
		func() { r.Mark(nil) }, func() { p.Mark(nil) }, func() { x.SetAllFrozen(nil) }, func() { x.Commit(nil) }, func() { x.Abort(nil) }, func() { y.Abort(nil) }, func() { first.Commit(nil) }, func() { first.SetAllFrozen(nil) },
	}
	for i, deed := range deeds {
		deed()
		if p.Data != "p" || q.Data != "q" || r.Data != "r" || r.Len() != 2 || p.Len() != 0 {
			t.Errorf("behind deed %d the data are %s, %s, %s", i, p.Data, q.Data, r.Data)
		}
		if !slices.Equal(x.V, []*record.Record[string]{r, p}) || x.Infos[0] != first || len(x.Infos) != 2 || !slices.Equal(x.Fin, []bool{false, true}) || x.At != 0 || x.Field != 1 || x.Old != q || x.New != p {
			t.Errorf("behind deed %d the SCX-record is %v", i, x)
		}
		if !slices.Equal(y.V, []*record.Record[string]{r}) || y.Infos[0] != x || !y.Fin[0] || y.At != 0 || y.Field != 0 || y.Old != p || y.New != nil {
			t.Errorf("behind deed %d the other SCX-record is %v", i, y)
		}
		if first.V != nil || first.Infos != nil || first.Fin != nil || first.At != 0 || first.Field != 0 || first.Old != nil || first.New != nil {
			t.Errorf("behind deed %d the first info is %v", i, first)
		}
	}
}

// meddler is a gate at which something else happens.
type meddler func()

func (m meddler) Pass(int) { m() }

// TestTheGateIsPassedAhead: what happens at the gate is seen by the access.
func TestTheGateIsPassedAhead(t *testing.T) { // P12.2
	p, q := record.New("p"), record.New("q")
	r := record.New("r", p)
	if got := r.Get(meddler(func() { r.Swing(nil, 0, p, q) }), 0); got != q {
		t.Errorf("Get = %v", got)
	}
	if r.Swing(meddler(func() { r.Swing(nil, 0, q, p) }), 0, q, nil) || r.Get(nil, 0) != p {
		t.Error("a Swing that was meddled with did something")
	}
	first, x := r.Info(nil), record.NewScx[string](nil, nil, nil, 0, 0, nil, nil)
	if got := r.Info(meddler(func() { r.Freeze(nil, first, x) })); got != x {
		t.Error("Info")
	}
	if r.Freeze(meddler(func() { r.Freeze(nil, x, first) }), x, x) || r.Info(nil) != first {
		t.Error("a Freeze that was meddled with did something")
	}
	if !r.Marked(meddler(func() { r.Mark(nil) })) || !x.AllFrozen(meddler(func() { x.SetAllFrozen(nil) })) || x.State(meddler(func() { x.Commit(nil) })) != record.Committed {
		t.Error("Marked, AllFrozen, State")
	}
	x.Abort(meddler(func() { x.Commit(nil) }))
	if x.State(nil) != record.Aborted {
		t.Error("Abort")
	}
	x.Commit(meddler(func() { x.Abort(nil) }))
	if x.State(nil) != record.Committed {
		t.Error("Commit")
	}
}

// tryCall: was the gate's panic let through?
func tryCall(call func(g cell.Gate)) (thrown bool) {
	defer func() { thrown = recover() == "closed" }()
	call(meddler(func() { panic("closed") }))
	return false
}

// TestAGateThatThrows: the access isn't done.
func TestAGateThatThrows(t *testing.T) { // P12.2
	p := record.New("p")
	r := record.New("r", p)
	first, x := r.Info(nil), record.NewScx[string](nil, nil, nil, 0, 0, nil, nil)
	for i, call := range []func(g cell.Gate){
		func(g cell.Gate) { r.Get(g, 0) }, func(g cell.Gate) { r.Swing(g, 0, p, nil) }, func(g cell.Gate) { r.Info(g) }, func(g cell.Gate) { r.Freeze(g, first, x) }, func(g cell.Gate) { r.Marked(g) }, func(g cell.Gate) { r.Mark(g) },
		func(g cell.Gate) { x.State(g) }, func(g cell.Gate) { x.Commit(g) }, func(g cell.Gate) { x.Abort(g) }, func(g cell.Gate) { x.AllFrozen(g) }, func(g cell.Gate) { x.SetAllFrozen(g) },
	} {
		if !tryCall(call) || r.Get(nil, 0) != p || r.Info(nil) != first || r.Marked(nil) || x.State(nil) != record.InProgress || x.AllFrozen(nil) {
			t.Errorf("call %d: the gate's panic is lost, or the access is done", i)
		}
	}
}

// TestManyAtOnce: of threads that swing one field, and freeze one record, from the same, just one is told true.
func TestManyAtOnce(t *testing.T) { // P12.2
	for range 50 {
		const threads = 8
		r := record.New(0, nil)
		first := r.Info(nil)
		swung, froze := make([]bool, threads), make([]bool, threads)
		mine, scxs := make([]*record.Record[int], threads), make([]*record.Scx[int], threads)
		together.Run(threads, func(i int) {
			mine[i], scxs[i] = record.New(i), record.NewScx(nil, nil, nil, 0, 0, nil, r)
			swung[i], froze[i] = r.Swing(nil, 0, nil, mine[i]), r.Freeze(nil, first, scxs[i])
			scxs[i].SetAllFrozen(nil)
			r.Mark(nil)
			r.Info(nil).Commit(nil)
		})
		who, whose := slices.Index(swung, true), slices.Index(froze, true)
		if who == -1 || whose == -1 || slices.Contains(swung[who+1:], true) || slices.Contains(froze[whose+1:], true) {
			t.Fatalf("told true: %v, %v", swung, froze)
		}
		if r.Get(nil, 0) != mine[who] || r.Get(nil, 0).Data != who || r.Info(nil) != scxs[whose] || scxs[whose].State(nil) != record.Committed || !r.Marked(nil) {
			t.Fatal("what is left isn't what the one put there")
		}
	}
}

// TestNothingPanics: of these nothing is promised, but that.
func TestNothingPanics(t *testing.T) { // P12.2
	var none *record.Record[int]
	var scx *record.Scx[int]
	var zero record.Record[int]
	r := record.New(1, nil)
	tape := cell.NewTape()
	for _, p := range []*record.Record[int]{none, &zero, r} {
		for _, field := range []int{-1, 1, 1 << 40} {
			if p.Get(tape, field) != nil {
				t.Error("a field that isn't there holds something")
			}
			p.Swing(tape, field, nil, r)
			if p.Get(nil, field) != nil {
				t.Error("a field that isn't there keeps something")
			}
		}
	}
	if none.Len() != 0 || none.Info(tape) != nil || none.Marked(tape) {
		t.Error("a nil record has something")
	}
	none.Mark(tape)
	none.Freeze(tape, nil, r.Info(nil))
	scx.Commit(tape)
	scx.Abort(tape)
	scx.SetAllFrozen(tape)
	if none.Marked(nil) || none.Info(nil) != nil || scx.State(nil) != 0 || scx.AllFrozen(nil) || len(tape.Kinds()) != 18+7 {
		t.Errorf("nil keeps something, or hasn't passed its gate: %v", tape.Kinds())
	}
}
