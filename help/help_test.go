package help_test

import (
	"slices"
	"testing"

	"larch/api"
	"larch/cell"
	"larch/help"
	"larch/record"
	"larch/together"
)

// scene is a record with two fields, one beside it, and an SCX that wants to put fresh in the place of old, and finalize beside.
type scene[T any] struct {
	r, beside, old, fresh *record.Record[T]
	first, besideFirst    *record.Scx[T]
	s                     *record.Scx[T]
}

func newScene[T any](a, b T) scene[T] {
	c := scene[T]{beside: record.New(b), old: record.New(a), fresh: record.New(b)}
	c.r = record.New(a, c.beside, c.old)
	c.first, c.besideFirst = c.r.Info(nil), c.beside.Info(nil)
	c.s = record.NewScx([]*record.Record[T]{c.r, c.beside}, []*record.Scx[T]{c.first, c.besideFirst}, []bool{false, true}, 0, 1, c.old, c.fresh)
	return c
}

// isDone: has all of it been done?
func (c scene[T]) isDone() bool {
	return c.r.Get(nil, 0) == c.beside && c.r.Get(nil, 1) == c.fresh && c.r.Info(nil) == c.s && c.beside.Info(nil) == c.s &&
		!c.r.Marked(nil) && c.beside.Marked(nil) && c.s.State(nil) == record.Committed && c.s.AllFrozen(nil) &&
		!c.old.Marked(nil) && !c.fresh.Marked(nil)
}

func wantHelp[T any](t *testing.T, a, b T) {
	t.Helper()
	free := newScene(a, b)
	if !help.Help(nil, free.s) || !free.isDone() {
		t.Errorf("data %v: without a gate: %v", a, free)
	}
	tape, gated := cell.NewTape(), newScene(a, b)
	if !help.Help(tape, gated.s) || !gated.isDone() || !slices.Equal(tape.Kinds(), []int{api.Cas, api.Cas, api.Store, api.Store, api.Cas, api.Store}) {
		t.Errorf("data %v: through a Tape: %v, %v", a, gated, tape.Kinds())
	}
	if !help.Help(tape, gated.s) || !gated.isDone() || !slices.Equal(tape.Kinds()[6:], []int{api.Cas, api.Load, api.Cas, api.Load, api.Store, api.Store, api.Cas, api.Store}) {
		t.Errorf("data %v: again: %v, %v", a, gated, tape.Kinds())
	}
}

func TestHelpOfAllTypes(t *testing.T) { // P13.1
	one := 1
	wantHelp(t, 1, 0)
	wantHelp(t, "a", "")
	wantHelp(t, struct{}{}, struct{}{})
	wantHelp(t, &one, nil)
	wantHelp[any](t, 1, nil)
	wantHelp(t, []int{1}, nil)
	wantHelp(t, map[int]int{1: 1}, nil)
}

// TestHelpThatIsLate: another SCX has the record beside.
func TestHelpThatIsLate(t *testing.T) { // P13.1
	c, tape := newScene("a", "b"), cell.NewTape()
	other := record.NewScx[string](nil, nil, nil, 0, 0, nil, nil)
	c.beside.Freeze(nil, c.besideFirst, other)
	if help.Help(tape, c.s) || !slices.Equal(tape.Kinds(), []int{api.Cas, api.Cas, api.Load, api.Load, api.Store}) {
		t.Errorf("answered true, or kinds %v", tape.Kinds())
	}
	if c.s.State(nil) != record.Aborted || c.s.AllFrozen(nil) || c.r.Info(nil) != c.s || c.beside.Info(nil) != other || c.beside.Marked(nil) || c.r.Get(nil, 1) != c.old || other.State(nil) != record.InProgress {
		t.Errorf("behind it: %v", c)
	}
	c, tape = newScene("a", "b"), cell.NewTape()
	c.s.SetAllFrozen(nil)
	c.r.Freeze(nil, c.first, other)
	if !help.Help(tape, c.s) || !slices.Equal(tape.Kinds(), []int{api.Cas, api.Load, api.Load}) || c.s.State(nil) != record.InProgress || c.beside.Info(nil) != c.besideFirst || c.r.Get(nil, 1) != c.old {
		t.Errorf("all frozen: answered false, or did more: %v, %v", tape.Kinds(), c)
	}
}

// TestAnothersFirstInfo: the first infos of two records are alike, but not the same.
func TestAnothersFirstInfo(t *testing.T) { // P13.1
	c := newScene("a", "b")
	s := record.NewScx(c.s.V, []*record.Scx[string]{c.first, c.first}, c.s.Fin, 0, 1, c.old, c.fresh)
	if help.Help(nil, s) || s.State(nil) != record.Aborted || c.beside.Info(nil) != c.besideFirst || c.beside.Marked(nil) || c.r.Get(nil, 1) != c.old {
		t.Errorf("%v", c)
	}
}

// TestHelpByIdentity: an equal record, or an equal SCX-record, isn't the one.
func TestHelpByIdentity(t *testing.T) { // P13.1
	c := newScene("a", "b")
	twin := record.NewScx(c.s.V, c.s.Infos, c.s.Fin, c.s.At, c.s.Field, c.s.Old, c.s.New)
	if !help.Help(nil, twin) || help.Help(nil, c.s) || c.s.State(nil) != record.Aborted || twin.State(nil) != record.Committed || c.r.Info(nil) != twin {
		t.Errorf("%v", c)
	}
	c = newScene("a", "b")
	like := record.NewScx([]*record.Record[string]{c.r}, []*record.Scx[string]{c.first}, []bool{false}, 0, 1, record.New("a"), c.fresh)
	if !help.Help(nil, like) || c.r.Get(nil, 1) != c.old || like.State(nil) != record.Committed {
		t.Errorf("a Swing from an equal record: %v", c)
	}
}

// meddler is a gate at which something else happens ahead of the access of that number.
type meddler struct {
	at, passed int
	deed       func()
}

func (m *meddler) Pass(int) {
	if m.passed == m.at {
		m.deed()
	}
	m.passed++
}

// TestHelpThatIsMeddledWith: another thread does the whole SCX while this one stands at its access number n.
func TestHelpThatIsMeddledWith(t *testing.T) { // P13.1, P13.2
	for n := range 6 {
		c := newScene("a", "b")
		m := &meddler{at: n, deed: func() { help.Help(nil, c.s) }}
		if !help.Help(m, c.s) || !c.isDone() || m.passed != 6+max(0, 2-n) {
			t.Errorf("at access %d: %d accesses, %v", n, m.passed, c)
		}
	}
}

// TestAGateThatThrows: the access isn't done, and no later one; the panic is let through.
func TestAGateThatThrows(t *testing.T) { // P13.1
	for n := range 6 {
		c := newScene("a", "b")
		m := &meddler{at: n, deed: func() { panic("closed") }}
		thrown := func() (thrown any) {
			defer func() { thrown = recover() }()
			help.Help(m, c.s)
			return nil
		}()
		did := []bool{c.r.Info(nil) == c.s, c.beside.Info(nil) == c.s, c.s.AllFrozen(nil), c.beside.Marked(nil), c.r.Get(nil, 1) == c.fresh, c.s.State(nil) == record.Committed}
		if thrown != "closed" || slices.Contains(did[:n], false) || slices.Contains(did[n:], true) {
			t.Errorf("at access %d: thrown %v, done %v", n, thrown, did)
		}
	}
}

// TestManyAtOnce: threads without a gate help one SCX-record each, all on one record: just one is committed.
func TestManyAtOnce(t *testing.T) { // P13.2
	for range 100 {
		const threads = 8
		r := record.New(0, nil)
		scxs, mine := make([]*record.Scx[int], threads/2), make([]*record.Record[int], threads/2)
		for i := range scxs {
			mine[i] = record.New(i)
			scxs[i] = record.NewScx([]*record.Record[int]{r}, []*record.Scx[int]{r.Info(nil)}, []bool{true}, 0, 0, nil, mine[i])
		}
		answers := make([]bool, threads)
		together.Run(threads, func(i int) { answers[i] = help.Help(nil, scxs[i/2]) })
		who := slices.Index(answers, true) / 2
		for i := range scxs {
			if is := i == who; answers[2*i] != is || answers[2*i+1] != is || (scxs[i].State(nil) == record.Committed) != is || scxs[i].AllFrozen(nil) != is {
				t.Fatalf("answers %v, SCX-record %d: state %d", answers, i, scxs[i].State(nil))
			}
		}
		if r.Get(nil, 0) != mine[who] || r.Info(nil) != scxs[who] || !r.Marked(nil) {
			t.Fatal("the record isn't as the one SCX wants it")
		}
	}
}

// TestNothingPanics: of these nothing is promised, but that.
func TestNothingPanics(t *testing.T) { // P13.1
	r := record.New(1, nil)
	var none *record.Scx[int]
	odd := []*record.Scx[int]{
		none, {}, r.Info(nil),
		record.NewScx([]*record.Record[int]{nil, nil}, nil, nil, 1, 0, nil, r),
		record.NewScx([]*record.Record[int]{r}, nil, []bool{true, true}, 5, 0, nil, r),
		record.NewScx([]*record.Record[int]{r, r}, []*record.Scx[int]{r.Info(nil)}, []bool{true}, -1, 0, nil, r),
		record.NewScx([]*record.Record[int]{r}, []*record.Scx[int]{nil, nil}, nil, 0, 7, nil, r),
		record.NewScx(nil, []*record.Scx[int]{nil}, []bool{true}, 0, -3, nil, r),
	}
	for _, s := range odd {
		help.Help(nil, s)
		help.Help(cell.NewTape(), s)
	}
	if r.Get(nil, 0) != nil {
		t.Error("a field has changed that none of them has named")
	}
}
