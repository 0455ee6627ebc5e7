package llx_test

import (
	"slices"
	"testing"

	"larch/api"
	"larch/cell"
	"larch/llx"
	"larch/record"
	"larch/together"
)

// kinds of an LLX of a record with so many fields that answers Done.
func doneKinds(fields int) []int { return slices.Repeat([]int{api.Load}, 4+fields+1) }

// wantBare: all three, of records with data of any type, without a gate and through a Tape.
func wantBare[T any](t *testing.T, a, b T) {
	t.Helper()
	for _, gated := range []bool{false, true} {
		tape := cell.NewTape()
		var g cell.Gate
		if gated {
			g = tape
		}
		p, q, fresh := record.New(a), record.New(b), record.New(a)
		r := record.New(b, p, nil, q)
		first := r.Info(nil)
		l, code := llx.LLX(g, r)
		if code != llx.Done || l.R != r || l.Info != first || !slices.Equal(l.Fields, []*record.Record[T]{p, nil, q}) {
			t.Fatalf("LLX = %v, %d", l, code)
		}
		m, code := llx.LLX(g, q)
		if code != llx.Done || m.R != q || m.Info != q.Info(nil) || len(m.Fields) != 0 {
			t.Fatalf("LLX of a record without fields = %v, %d", m, code)
		}
		both := []llx.Linked[T]{l, m}
		if !llx.VLX(g, both) || !llx.VLX[T](g, nil) {
			t.Error("VLX of links that are right")
		}
		if !llx.SCX(g, both, []bool{false, true}, 0, 2, fresh) || r.Get(nil, 2) != fresh || r.Get(nil, 0) != p || r.Marked(nil) || !q.Marked(nil) || r.Info(nil) != q.Info(nil) {
			t.Error("SCX")
		}
		s := r.Info(nil)
		if !slices.Equal(s.V, []*record.Record[T]{r, q}) || !slices.Equal(s.Infos, []*record.Scx[T]{l.Info, m.Info}) || !slices.Equal(s.Fin, []bool{false, true}) || s.At != 0 || s.Field != 2 || s.Old != q || s.New != fresh || s.State(nil) != record.Committed {
			t.Errorf("the SCX-record is %v", s)
		}
		if llx.VLX(g, both) || llx.SCX(g, both, []bool{false, false}, 0, 0, nil) || r.Get(nil, 0) != p {
			t.Error("links that are used up")
		}
		again, code := llx.LLX(g, r)
		if code != llx.Done || again.Info != s || !slices.Equal(again.Fields, []*record.Record[T]{p, nil, fresh}) {
			t.Errorf("LLX again = %v, %d", again, code)
		}
		if gone, code := llx.LLX(g, q); code != llx.Final || gone.R != nil || gone.Info != nil || gone.Fields != nil {
			t.Errorf("LLX of a record that is finalized = %v, %d", gone, code)
		}
		load, cas, store := api.Load, api.Cas, api.Store
		want := slices.Concat(doneKinds(3), doneKinds(0), []int{load, load}, []int{cas, cas, store, store, cas, store}, []int{load}, []int{cas, load, load, store}, doneKinds(3), slices.Repeat([]int{load}, 5))
		if gated && !slices.Equal(tape.Kinds(), want) {
			t.Errorf("kinds %v, want %v", tape.Kinds(), want)
		}
	}
}

func TestBareOfAllTypes(t *testing.T) { // P14.1
	one := 1
	wantBare(t, 1, 0)
	wantBare(t, "a", "")
	wantBare(t, struct{}{}, struct{}{})
	wantBare(t, &one, nil)
	wantBare[any](t, 1, nil)
	wantBare(t, []int{1}, nil)
	wantBare(t, map[int]int{1: 1}, nil)
}

// meddler is a gate at which something else happens ahead of the access of that number.
type meddler struct {
	cell.Tape
	at   int
	deed func()
}

func (m *meddler) Pass(kind int) {
	if len(m.Kinds()) == m.at {
		m.deed()
	}
	m.Tape.Pass(kind)
}

// wantLLX: of r, with the deed ahead of the access of that number.
func wantLLX(t *testing.T, name string, r *record.Record[int], at int, deed func(), code int, kinds ...int) llx.Linked[int] {
	t.Helper()
	m := &meddler{at: at, deed: deed}
	l, got := llx.LLX(m, r)
	if got != code || !slices.Equal(m.Kinds(), kinds) {
		t.Errorf("%s: %d, kinds %v, want %d, %v", name, got, m.Kinds(), code, kinds)
	}
	if code != llx.Done && (l.R != nil || l.Info != nil || l.Fields != nil) {
		t.Errorf("%s: %v", name, l)
	}
	return l
}

// scx: the SCX-record of a Swap of r's field 0 to a new record, which finalizes r or doesn't, and of which nothing is done.
func scx(r *record.Record[int], fin bool) *record.Scx[int] {
	return record.NewScx([]*record.Record[int]{r}, []*record.Scx[int]{r.Info(nil)}, []bool{fin}, 0, 0, r.Get(nil, 0), record.New(9))
}

func loads(n int) []int { return slices.Repeat([]int{api.Load}, n) }

// TestTheMarkIsReadTwice: an SCX that finalizes the record comes in between.
func TestTheMarkIsReadTwice(t *testing.T) { // P14.1
	swapAway := func(r *record.Record[int]) func() {
		return func() {
			l, _ := llx.LLX(nil, r)
			if !llx.SCX(nil, []llx.Linked[int]{l}, []bool{true}, 0, 0, record.New(9)) {
				t.Fatal("the SCX of the meddler fails")
			}
		}
	}
	r := record.New(0, nil)
	wantLLX(t, "ahead of the first mark", r, 0, swapAway(r), llx.Final, loads(5)...)
	r = record.New(0, nil)
	wantLLX(t, "ahead of the info", r, 1, swapAway(r), llx.Fail, loads(5)...)
	for at := 2; at <= 5; at++ {
		r = record.New(0, nil)
		wantLLX(t, "behind the info: it has changed", r, at, swapAway(r), llx.Fail, loads(7)...)
	}
	r = record.New(0, nil)
	wantLLX(t, "behind all", r, 6, swapAway(r), llx.Done, loads(6)...)
	// The state is Committed already, and the mark of an odd record comes in between.
	r = record.New(0, nil)
	s := scx(r, false)
	r.Freeze(nil, r.Info(nil), s)
	s.Commit(nil)
	wantLLX(t, "Committed, and the mark is set between its two readings", r, 3, func() { r.Mark(nil) }, llx.Fail, loads(5)...)
	wantLLX(t, "Committed, and marked", r, 0, func() {}, llx.Final, loads(5)...)
	s.Abort(nil)
	if l := wantLLX(t, "Aborted, and marked", r, 0, func() {}, llx.Done, loads(6)...); l.R != r || l.Info != s {
		t.Errorf("Aborted, and marked: %v", l)
	}
}

// TestTheInfoIsReadTwice: what the second state says then.
func TestTheInfoIsReadTwice(t *testing.T) { // P14.1
	for _, c := range []struct {
		name   string
		marked bool
		deed   func(s *record.Scx[int])
		code   int
		kinds  []int
	}{
		{"Aborted", true, func(s *record.Scx[int]) {}, llx.Fail, loads(7)},
		{"Committed in between", true, func(s *record.Scx[int]) { s.Commit(nil) }, llx.Final, loads(7)},
		{"Committed in between, not marked", false, func(s *record.Scx[int]) { s.Commit(nil) }, llx.Fail, loads(7)},
	} {
		r := record.New(0, nil)
		if c.marked {
			r.Mark(nil)
		}
		first := r.Info(nil)
		wantLLX(t, c.name, r, 5, func() { r.Freeze(nil, first, scx(r, false)); c.deed(first) }, c.code, c.kinds...)
	}
}

// TestFieldsOfOneMoment: the field that was read is swung while the next one is read.
func TestFieldsOfOneMoment(t *testing.T) { // P14.1, P14.3
	a, b, c := record.New(1), record.New(2), record.New(3)
	r := record.New(0, a, b)
	wantLLX(t, "swung between two fields", r, 5, func() {
		l, _ := llx.LLX(nil, r)
		llx.SCX(nil, []llx.Linked[int]{l}, []bool{false}, 0, 0, c)
	}, llx.Fail, loads(8)...)
	if l, code := llx.LLX(nil, r); code != llx.Done || !slices.Equal(l.Fields, []*record.Record[int]{c, b}) {
		t.Errorf("LLX = %v, %d", l, code)
	}
}

// TestAnScxUnderWayIsHelped: in all its places.
func TestAnScxUnderWayIsHelped(t *testing.T) { // P14.1
	behind := []int{api.Cas, api.Load, api.Store, api.Cas, api.Store} // it is frozen already; no mark
	r := record.New(0, nil)
	s := scx(r, false)
	r.Freeze(nil, r.Info(nil), s)
	wantLLX(t, "frozen", r, 0, func() {}, llx.Fail, append(loads(5), behind...)...)
	if s.State(nil) != record.Committed || r.Get(nil, 0) != s.New {
		t.Errorf("it isn't brought to its end: %v", s)
	}
	r = record.New(0, nil)
	s = scx(r, true)
	r.Freeze(nil, r.Info(nil), s)
	marked := []int{api.Cas, api.Load, api.Store, api.Store, api.Cas, api.Store}
	wantLLX(t, "frozen, and it will be finalized", r, 0, func() {}, llx.Fail, append(loads(5), marked...)...)
	r = record.New(0, nil)
	s = scx(r, true)
	r.Freeze(nil, r.Info(nil), s)
	r.Mark(nil)
	wantLLX(t, "marked", r, 0, func() {}, llx.Final, append(loads(5), marked...)...)
	r = record.New(0, nil)
	s = scx(r, true)
	r.Freeze(nil, r.Info(nil), s)
	wantLLX(t, "committed ahead of the second state", r, 4, func() { r.Mark(nil); s.Commit(nil) }, llx.Fail, loads(5)...)
	r = record.New(0, nil)
	s = scx(r, false)
	r.Freeze(nil, r.Info(nil), s)
	r.Mark(nil)
	wantLLX(t, "aborted ahead of the second state", r, 4, func() { s.Abort(nil) }, llx.Fail, loads(5)...)
}

// TestHelpThatFails: the SCX under way is too late at its second record.
func TestHelpThatFails(t *testing.T) { // P14.1
	r, q := record.New(0, nil), record.New(1)
	s := record.NewScx([]*record.Record[int]{r, q}, []*record.Scx[int]{r.Info(nil), r.Info(nil)}, []bool{true, true}, 0, 0, nil, record.New(9))
	r.Freeze(nil, r.Info(nil), s)
	r.Mark(nil)
	wantLLX(t, "aborted by the help", r, 0, func() {}, llx.Fail, append(loads(5), api.Cas, api.Load, api.Cas, api.Load, api.Load, api.Store)...)
	if s.State(nil) != record.Aborted || r.Get(nil, 0) != nil || q.Marked(nil) {
		t.Errorf("behind it: %v", s)
	}
}

// TestVLXStopsAtOnce: at the first link that isn't right.
func TestVLXStopsAtOnce(t *testing.T) { // P14.1
	a, b, c := record.New(1, nil), record.New(2, nil), record.New(3, nil)
	var v []llx.Linked[int]
	for _, r := range []*record.Record[int]{a, b, c} {
		l, _ := llx.LLX(nil, r)
		v = append(v, l)
	}
	llx.SCX(nil, v[1:2], []bool{false}, 0, 0, record.New(9))
	tape := cell.NewTape()
	if llx.VLX(tape, v) || len(tape.Kinds()) != 2 {
		t.Errorf("kinds %v", tape.Kinds())
	}
	if !llx.VLX(tape, []llx.Linked[int]{v[0], v[2]}) || len(tape.Kinds()) != 4 {
		t.Errorf("kinds %v", tape.Kinds())
	}
	m := &meddler{at: 1, deed: func() { llx.SCX(nil, v[2:], []bool{false}, 0, 0, record.New(9)) }}
	if llx.VLX(m, []llx.Linked[int]{v[0], v[2]}) {
		t.Error("a record that changes while another one is looked at")
	}
}

// tryCall: was the gate's panic let through?
func tryCall(at int, call func(g cell.Gate)) (thrown any) {
	defer func() { thrown = recover() }()
	call(&meddler{at: at, deed: func() { panic("closed") }})
	return nil
}

// TestAGateThatThrows: the access isn't done, and no later one.
func TestAGateThatThrows(t *testing.T) { // P14.1
	r := record.New(0, nil)
	l, _ := llx.LLX(nil, r)
	v := []llx.Linked[int]{l}
	for at := range 6 {
		if tryCall(at, func(g cell.Gate) { llx.LLX(g, r) }) != "closed" {
			t.Errorf("LLX: the gate's panic is lost at access %d", at)
		}
	}
	if tryCall(0, func(g cell.Gate) { llx.VLX(g, v) }) != "closed" || tryCall(0, func(g cell.Gate) { llx.SCX(g, v, []bool{true}, 0, 0, r) }) != "closed" || r.Info(nil) != l.Info {
		t.Error("VLX or SCX: the gate's panic is lost, or the access is done")
	}
	if tryCall(2, func(g cell.Gate) { llx.SCX(g, v, []bool{true}, 0, 0, r) }) != "closed" || r.Info(nil) == l.Info || r.Marked(nil) || r.Get(nil, 0) != nil {
		t.Error("SCX does more than it may, or less")
	}
}

// TestManyAtOnce: threads without a gate push records in front of a list, each by LLX and SCX till it succeeds.
func TestManyAtOnce(t *testing.T) { // P14.1, P14.4
	const threads, each = 8, 50
	head := record.New(-1, nil)
	tries := make([]int, threads)
	together.Run(threads, func(thread int) {
		for n := range each {
			for {
				tries[thread]++
				l, code := llx.LLX(nil, head)
				if code == llx.Done && llx.SCX(nil, []llx.Linked[int]{l}, []bool{false}, 0, 0, record.New(thread*each+n, l.Fields[0])) {
					break
				}
			}
		}
	})
	seen := make([]bool, threads*each)
	last := slices.Repeat([]int{each}, threads)
	for r := head.Get(nil, 0); r != nil; r = r.Get(nil, 0) {
		thread, n := r.Data/each, r.Data%each
		if seen[r.Data] || n >= last[thread] {
			t.Fatalf("%d stands twice, or out of its thread's order", r.Data)
		}
		seen[r.Data], last[thread] = true, n
	}
	if slices.Contains(seen, false) {
		t.Errorf("a record is lost; tries %v", tries)
	}
}

// TestNothingPanics: of these nothing is promised, but that.
func TestNothingPanics(t *testing.T) { // P14.1
	var none *record.Record[int]
	var zero record.Record[int]
	r := record.New(1, nil)
	for _, g := range []cell.Gate{nil, cell.NewTape()} {
		if l, code := llx.LLX(g, none); code == llx.Done || l.R != nil {
			t.Error("LLX of nil")
		}
		if _, code := llx.LLX(g, new(record.Record[int])); code == llx.Done {
			t.Error("LLX of a zero record")
		}
		llx.VLX(g, []llx.Linked[int]{{}, {R: r}})
		l, _ := llx.LLX(nil, r)
		for _, v := range [][]llx.Linked[int]{nil, {{}}, {{}, {R: r}}, {l}, {{R: &zero}}} {
			for _, fin := range [][]bool{nil, {true, true, true}} {
				for _, at := range []int{-1, 0, 5} {
					for _, field := range []int{-1, 1, 1 << 40} {
						llx.SCX(g, v, fin, at, field, nil)
					}
				}
			}
		}
	}
	if r.Get(nil, 0) != nil {
		t.Error("a field has changed that none of them has named")
	}
}
