package llx_test

import (
	"math"
	"slices"
	"testing"

	"larch/api"
	"larch/llx"
	"larch/record"
)

// wantRefused: by Form, Play and Moments alike.
func wantRefused(t *testing.T, name string, w record.World, scripts [][]llx.Act, want api.Errno) {
	t.Helper()
	if e := llx.Form(w, scripts); e != want {
		t.Errorf("%s: Form = %d, want %d", name, e, want)
	}
	wantRunRefused(t, name, w, scripts, []int{0, 0}, want)
}

func wantRunRefused(t *testing.T, name string, w record.World, scripts [][]llx.Act, picks []int, want api.Errno) {
	t.Helper()
	p, e := llx.Play(w, scripts, picks)
	if e != want || p.Answers != nil || p.Steps != nil || p.World.Fields != nil || p.World.Infos != nil || p.World.Marks != nil || p.World.States != nil || p.World.Frozen != nil {
		t.Errorf("%s: Play = %v, %d, want %d", name, p, e, want)
	}
	if m, e := llx.Moments(w, scripts, picks); e != want || m != nil {
		t.Errorf("%s: Moments = %v, %d, want %d", name, m, e, want)
	}
}

// with: the Swap of the examples, but for one thing.
func with(change func(a *llx.Act)) llx.Act {
	a := swapIt()
	change(&a)
	return a
}

// worldWith: the example's, but for one thing.
func worldWith(change func(w *record.World)) record.World {
	w := example()
	change(&w)
	return w
}

func TestFormByExample(t *testing.T) { // P14.2
	wantRefused(t, "Link 3", example(), threads(acts(linkOf(3))), api.ErrArg)
	wantRefused(t, "Kind 4", example(), threads(acts(llx.Act{Kind: 4})), api.ErrKind)
	wantRefused(t, "no Fin", example(), threads(acts(with(func(a *llx.Act) { a.Fin = nil }))), api.ErrArg)
	wantRefused(t, "New in a field", example(), threads(acts(with(func(a *llx.Act) { a.New = 1 }))), api.ErrArg)
	wantRefused(t, "a state InProgress", worldWith(func(w *record.World) { w.States, w.Frozen = []int{0}, []bool{false} }), threads(nil), api.ErrForm)
	wantRefused(t, "no scripts", example(), nil, api.ErrArg)
}

func TestActsThatDoNotFit(t *testing.T) { // P14.2
	for name, a := range map[string]llx.Act{
		"a Link below 0":            linkOf(-1),
		"a Link above":              linkOf(3),
		"a Link far above":          linkOf(math.MaxInt),
		"a Check above":             checkOf(0, 3),
		"a Check below 0":           checkOf(-1, 0),
		"a Check of one twice":      checkOf(0, 1, 0),
		"a Check of two alike":      checkOf(2, 2),
		"a Swap of nothing":         with(func(a *llx.Act) { a.V, a.Fin = nil, nil }),
		"a Swap above":              with(func(a *llx.Act) { a.V, a.Fin = []int{0, 3}, make([]bool, 2) }),
		"a Swap below 0":            with(func(a *llx.Act) { a.V, a.Fin = []int{0, -1}, make([]bool, 2) }),
		"a Swap of one twice":       with(func(a *llx.Act) { a.V, a.Fin = []int{0, 0}, make([]bool, 2) }),
		"Fin too long":              with(func(a *llx.Act) { a.Fin = make([]bool, 2) }),
		"Fin as long as may be":     with(func(a *llx.Act) { a.Fin = make([]bool, 64) }),
		"Pos below 0":               with(func(a *llx.Act) { a.Pos = -1 }),
		"Pos above":                 with(func(a *llx.Act) { a.Pos = 1 }),
		"Pos far above":             with(func(a *llx.Act) { a.Pos = math.MaxInt }),
		"Field below 0":             with(func(a *llx.Act) { a.Field = -1 }),
		"Field above":               with(func(a *llx.Act) { a.Field = 1 }),
		"a record without fields":   with(func(a *llx.Act) { a.V = []int{1} }),
		"New below 0":               with(func(a *llx.Act) { a.New = -1 }),
		"New above":                 with(func(a *llx.Act) { a.New = 3 }),
		"New far above":             with(func(a *llx.Act) { a.New = math.MaxInt }),
		"New in a field":            with(func(a *llx.Act) { a.New = 1 }),
		"many, the last one unlike": {Kind: llx.Swap, V: []int{0, 2, 1}, Fin: make([]bool, 3), Pos: 2, New: 2},
	} {
		wantRefused(t, name, example(), threads(acts(a)), api.ErrArg)
		wantRefused(t, "behind others: "+name, example(), threads(nil, acts(linkOf(0), a)), api.ErrArg)
	}
	for _, kind := range []int{0, 4, -1, math.MinInt, math.MaxInt} {
		wantRefused(t, "kind", example(), threads(acts(llx.Act{Kind: kind, At: 99, V: []int{99}})), api.ErrKind)
	}
	wantRefused(t, "the first thread's counts", example(), threads(acts(linkOf(0), linkOf(3)), acts(llx.Act{})), api.ErrArg)
	wantRefused(t, "the first place's counts", example(), threads(nil, acts(llx.Act{}, linkOf(3))), api.ErrKind)
	wantRefused(t, "no records", record.World{}, threads(acts(linkOf(0))), api.ErrArg)
}

// TestActsThatFit: what an act's kind doesn't use counts for nothing.
func TestActsThatFit(t *testing.T) { // P14.2
	odd := []int{-5, -5, 99}
	for name, a := range map[string]llx.Act{
		"Link":                   {Kind: llx.Link, At: 2, V: odd, Fin: make([]bool, 64), Pos: -1, Field: 99, New: 1},
		"Check":                  {Kind: llx.Check, At: 99, V: []int{2, 0, 1}, Fin: make([]bool, 64), Pos: 99, Field: -1, New: 1},
		"Check of nothing":       checkOf(),
		"Swap":                   {Kind: llx.Swap, At: math.MinInt, V: []int{1, 0}, Fin: make([]bool, 2), Pos: 1, New: 2},
		"Swap with New in its V": {Kind: llx.Swap, V: []int{0, 2}, Fin: []bool{true, true}, New: 2},
	} {
		if e := llx.Form(example(), threads(acts(a))); e != api.OK {
			t.Errorf("%s: %d", name, e)
		}
		wantPlay(t, example(), threads(acts(linkOf(0), linkOf(1), linkOf(2), a)), make([]int, 60))
	}
	if e := llx.Form(record.World{}, threads(nil, acts(checkOf()))); e != api.OK {
		t.Errorf("of an empty world: %d", e)
	}
}

// TestSpare: which records may come into a field.
func TestSpare(t *testing.T) { // P14.2
	wide := func() record.World {
		return record.World{Fields: [][]int{{1}, {0, -1}, {}, {}, {}}, Infos: []int{-1, -1, -1, 0, -1}, Marks: []bool{false, false, false, false, true}, States: []int{record.Aborted}, Frozen: []bool{true}}
	}
	to := func(n int) llx.Act { return swapOf([]int{1}, []bool{false}, 0, 0, n) }
	for n, want := range []api.Errno{api.ErrArg, api.ErrArg, api.OK, api.ErrArg, api.ErrArg} {
		if e := llx.Form(wide(), threads(acts(to(n)))); e != want {
			t.Errorf("New %d: %d, want %d", n, e, want)
		}
	}
	wantRefused(t, "it stands twice in a script", wide(), threads(acts(to(2), linkOf(0), to(2))), api.ErrArg)
	wantRefused(t, "in two scripts", wide(), threads(acts(to(2)), acts(to(2))), api.ErrArg)
	wantRefused(t, "an unlike Swap", wide(), threads(acts(swapOf([]int{0, 1}, []bool{true, true}, 0, 0, 2)), nil, acts(to(2))), api.ErrArg)
	// It is told at the second one: what stands between is told ahead of it.
	wantRefused(t, "told at the second one", wide(), threads(acts(to(2), llx.Act{}), acts(to(2))), api.ErrKind)
	wantRefused(t, "and not behind it", wide(), threads(acts(to(2)), acts(to(2), llx.Act{})), api.ErrArg)
	if e := llx.Form(wide(), threads(acts(to(2), llx.Act{Kind: llx.Check, New: 2}), acts(llx.Act{Kind: llx.Link, New: 2}))); e != api.OK {
		t.Errorf("New of a Check and of a Link count for nothing: %d", e)
	}
}

func TestWorldsThatAreNotFit(t *testing.T) { // P14.2
	state := func(list ...int) func(w *record.World) {
		return func(w *record.World) { w.States, w.Frozen = list, make([]bool, len(list)) }
	}
	late := threads(acts(llx.Act{Kind: 99})) // what comes later in the chapter's order isn't told
	for name, change := range map[string]func(w *record.World){
		"Infos too short":     func(w *record.World) { w.Infos = w.Infos[1:] },
		"Marks too long":      func(w *record.World) { w.Marks = make([]bool, 65) },
		"Frozen without one":  func(w *record.World) { w.Frozen = []bool{true} },
		"an info":             func(w *record.World) { w.Infos[0] = 0 },
		"an info below -1":    func(w *record.World) { w.Infos[0] = -2 },
		"a field":             func(w *record.World) { w.Fields[0][0] = 3 },
		"a field below -1":    func(w *record.World) { w.Fields[0][0] = -2 },
		"a state above":       state(1, 3),
		"a state below":       state(-1),
		"InProgress":          state(0),
		"InProgress, the 2nd": state(2, 1, 0),
	} {
		wantRefused(t, name, worldWith(change), late, api.ErrForm)
	}
	if e := llx.Form(worldWith(state(1, 2, 1)), threads(nil)); e != api.OK {
		t.Errorf("a world whose SCX-records have ended: %d", e)
	}
}

func TestWhatIsTooBig(t *testing.T) { // P14.2
	open := func(w *record.World) { w.States, w.Marks = []int{0}, nil } // isn't fit, but that comes later
	wrong := acts(llx.Act{Kind: 99})
	fields := func(n int) func(w *record.World) {
		return func(w *record.World) { open(w); w.Fields[1] = make([]int, n) }
	}
	for _, c := range []struct {
		name    string
		w       record.World
		scripts [][]llx.Act
	}{
		{"65 records", worldWith(func(w *record.World) { open(w); w.Fields = make([][]int, 65) }), threads(wrong)},
		{"65 SCX-records", worldWith(func(w *record.World) { open(w); w.States = make([]int, 65) }), threads(wrong)},
		{"65 fields", worldWith(fields(65)), threads(wrong)},
		{"1001 acts", worldWith(open), threads(wrong, make([]llx.Act, 1001))},
		{"a V of a Link", worldWith(open), threads(wrong, acts(llx.Act{Kind: llx.Link, V: make([]int, 65)}))},
		{"a V of a Check", worldWith(open), threads(acts(llx.Act{}, llx.Act{Kind: llx.Check, V: make([]int, 65)}))},
		{"a V of a Swap", worldWith(open), threads(acts(llx.Act{}, llx.Act{Kind: llx.Swap, V: make([]int, 65)}))},
		{"a Fin of a Link", worldWith(open), threads(acts(llx.Act{}, llx.Act{Kind: llx.Link, Fin: make([]bool, 65)}))},
		{"a Fin of a Check", worldWith(open), threads(acts(llx.Act{}, llx.Act{Kind: llx.Check, Fin: make([]bool, 65)}))},
		{"a Fin of a Swap", worldWith(open), threads(acts(llx.Act{}, llx.Act{Kind: llx.Swap, Fin: make([]bool, 65)}))},
		{"a V of an act of no kind", worldWith(open), threads(acts(llx.Act{Kind: 99, V: make([]int, 65)}))},
	} {
		wantRefused(t, c.name, c.w, c.scripts, api.ErrBig)
		wantRefused(t, c.name+", no scripts", c.w, nil, api.ErrArg)
		wantRefused(t, c.name+", 65 scripts", c.w, slices.Concat(c.scripts, make([][]llx.Act, 65)), api.ErrArg)
	}
	wantRefused(t, "64 fields", worldWith(fields(64)), threads(wrong), api.ErrForm)
	wantRefused(t, "65 scripts", example(), make([][]llx.Act, 65), api.ErrArg)
	wantRefused(t, "no scripts at all", example(), [][]llx.Act{}, api.ErrArg)
	if e := llx.Form(example(), make([][]llx.Act, 64)); e != api.OK {
		t.Errorf("64 scripts: %d", e)
	}
}

func TestTooManyPicks(t *testing.T) { // P14.2
	open, wrong := worldWith(func(w *record.World) { w.Marks = nil }), threads(acts(llx.Act{}))
	wantRunRefused(t, "1000001 picks", open, wrong, make([]int, 1000001), api.ErrBig)
	wantRunRefused(t, "1000001 picks, no scripts", open, nil, make([]int, 1000001), api.ErrArg)
	if m, e := llx.Moments(open, wrong, make([]int, 3001)); e != api.ErrBig || m != nil {
		t.Errorf("Moments of 3001 picks: %d", e)
	}
	if m, e := llx.Moments(example(), threads(acts(linkOf(0))), make([]int, 3001)); e != api.ErrBig || m != nil {
		t.Errorf("Moments of 3001 picks: %d", e)
	}
	if m, e := llx.Moments(example(), threads(acts(linkOf(0))), make([]int, 3000)); e != api.OK || len(m) != 3001 {
		t.Errorf("Moments of 3000 picks: %d", e)
	}
	if _, e := llx.Play(open, wrong, make([]int, 3001)); e != api.ErrForm {
		t.Errorf("Play of 3001 picks: %d", e)
	}
}
