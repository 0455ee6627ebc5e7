package help_test

import (
	"math"
	"math/rand"
	"slices"
	"testing"

	"larch/api"
	"larch/baton"
	"larch/help"
	"larch/record"
)

func TestAloneByExample(t *testing.T) { // P13.1, P13.3
	kinds, e := help.Kinds(example(1), plans(planP()), 0)
	if e != api.OK || !slices.Equal(kinds, []int{api.Cas, api.Cas, api.Store, api.Store, api.Cas, api.Store}) {
		t.Errorf("Kinds = %v, %d", kinds, e)
	}
	p := mustPlay(t, example(1), plans(planP()), lists([]int{0}), make([]int, 7))
	want := record.World{Fields: [][]int{{2, -1}, {}, {}}, Infos: []int{0, 0, -1}, Marks: []bool{false, true, false}, States: []int{record.Committed}, Frozen: []bool{true}}
	if !sameRows(p.Answers, lists([]int{1})) || !sameWorld(p.World, want) || !slices.Equal(p.Ended, []bool{true}) {
		t.Errorf("Play = %v", p)
	}
	steps := []api.Step{{Kind: api.Start}, {Kind: api.Cas}, {Kind: api.Cas}, {Kind: api.Store}, {Kind: api.Store}, {Kind: api.Cas}, {Kind: api.Store, Ended: true}}
	if !slices.Equal(p.Steps, steps) {
		t.Errorf("steps %v", p.Steps)
	}
}

func TestTwoByExample(t *testing.T) { // P13.1, P13.2
	two := plans(planP(), planQ())
	picks := []int{1, 1, 0, 0, 0, 0, 0}
	p := mustPlay(t, example(2), two, lists([]int{0}, []int{1}), picks)
	if !sameRows(p.Answers, lists([]int{0}, nil)) || !slices.Equal(p.World.States, []int{record.Aborted, record.InProgress}) || !slices.Equal(p.Ended, []bool{true, false}) {
		t.Errorf("Play = %v", p)
	}
	var kinds []int
	for _, s := range p.Steps {
		kinds = append(kinds, s.Kind)
	}
	if !slices.Equal(kinds, []int{api.Start, api.Cas, api.Start, api.Cas, api.Load, api.Load, api.Store}) {
		t.Errorf("kinds %v", kinds)
	}
	p = mustPlay(t, example(2), two, lists([]int{0}, []int{1}), append(picks, 1, 1, 1))
	if !sameRows(p.Answers, lists([]int{0}, []int{1})) || !slices.Equal(p.World.Fields[0], []int{1, 2}) || !slices.Equal(p.World.States, []int{record.Aborted, record.Committed}) {
		t.Errorf("Play = %v", p)
	}
}

func TestInTurnByExample(t *testing.T) { // P13.1, P13.2
	picks, _ := baton.Robin(2, 12)
	p := mustPlay(t, example(1), plans(planP()), lists([]int{0}, []int{0}), picks)
	if !sameRows(p.Answers, lists([]int{1}, []int{1})) || !slices.Equal(p.Ended, []bool{true, true}) {
		t.Errorf("Play = %v", p)
	}
	loads := 0
	for _, s := range p.Steps {
		if s.Kind == api.Load {
			loads++
		}
	}
	if loads != 2 {
		t.Errorf("%d Loads: each of two Freezes should fail for one of them", loads)
	}
}

func TestPlayUnderAllPicks(t *testing.T) { // P13.1
	other := help.Plan{V: []int{1, 0}, Infos: []int{-1, -1}, Fin: []bool{true, true}, At: 1, Field: 1, Old: -1, New: 2}
	for _, scripts := range [][][]int{lists([]int{0}, []int{1}), lists([]int{0}, []int{0}), lists([]int{1, 0}, []int{0, 1})} {
		eachList(2, 15, func(picks []int) { wantPlay(t, example(2), plans(planP(), other), scripts, picks) })
	}
	eachList(3, 9, func(picks []int) {
		wantPlay(t, example(2), plans(planP(), planQ()), lists([]int{0}, []int{1}, []int{0}), picks)
	})
}

// TestPlayIsTheMachine: of all worlds, fresh or not.
func TestPlayIsTheMachine(t *testing.T) { // P13.1
	r := rand.New(rand.NewSource(1))
	answered := [2]int{}
	late := 0 // helps that found another's Freeze, but all frozen
	for range 3000 {
		w := someWorld(r, 1+r.Intn(4), 1+r.Intn(4), 3)
		ps := somePlans(r, w, 4, somePlan)
		scripts := someScripts(r, 1+r.Intn(5), 4, len(ps))
		p := wantPlay(t, w, ps, scripts, somePicks(r, len(scripts), 80))
		for worker, answers := range p.Answers {
			for i, a := range answers {
				answered[a]++
				if s := scripts[worker][i]; a == 1 && p.World.States[s] != record.Committed {
					late++
				}
			}
		}
	}
	if answered[0] < 1000 || answered[1] < 1000 || late < 100 {
		t.Errorf("too little was tried: answers %v, late %d", answered, late)
	}
}

func TestKindsIsTheMachine(t *testing.T) { // P13.1
	r := rand.New(rand.NewSource(2))
	shapes := map[int]int{}
	for range 3000 {
		w := someWorld(r, 1+r.Intn(4), 1+r.Intn(4), 3)
		ps := somePlans(r, w, 4, somePlan)
		shapes[len(wantKinds(t, w, ps, r.Intn(len(ps))))]++
	}
	for n := 3; n <= 12; n++ {
		if shapes[n] == 0 {
			t.Errorf("no help had %d accesses", n)
		}
	}
}

// TestOddPlans: a record twice in V, infos that are another record's, or the SCX-record itself, or one that has ended.
func TestOddPlans(t *testing.T) { // P13.1
	w := example(3)
	w.Infos, w.States = []int{2, 1, -1}, []int{record.InProgress, record.Committed, record.Aborted}
	own := []int{0, 1, 1}
	cases := []help.Plan{
		{V: []int{0, 0}, Infos: []int{2, 2}, Fin: []bool{true, true}, Old: 1, New: 2},
		{V: []int{0, 0}, Infos: []int{2, 0}, Fin: []bool{false, false}, At: 1, Old: 1, New: 2},
		{V: []int{0, 1}, Infos: []int{1, 2}, Fin: []bool{true, true}, Old: 1, New: 2},
		{V: []int{0, 1}, Infos: []int{-1, -1}, Fin: []bool{true, true}, Old: 1, New: 2},
		{V: []int{0, 2}, Infos: []int{2, -1}, Fin: []bool{true, false}, Field: 1, Old: 1, New: 0},
		{V: []int{0, 2, 1}, Infos: []int{0, -1, 0}, Fin: []bool{true, false, true}, Field: 1, Old: -1, New: -1},
	}
	for _, p := range cases {
		all := plans(p, p, p)
		wantPlay(t, w, all, lists(own, []int{2, 0}), make([]int, 40))
		wantPlay(t, w, all, lists(own, []int{2, 0}), []int{1, 0, 1, 0, 1, 0, 1, 1, 0, 1, 0, 1, 0, 0, 1, 0, 1, 0, 1, 0, 1})
		for scx := range all {
			wantKinds(t, w, all, scx)
		}
	}
	twice := mustPlay(t, w, plans(cases[0], cases[0], cases[0]), lists([]int{0}), make([]int, 9))
	if !sameRows(twice.Answers, lists([]int{1})) || !slices.Equal(twice.World.Infos, []int{0, 1, -1}) || !twice.World.Marks[0] {
		t.Errorf("of a V that has a record twice: %v", twice)
	}
}

// TestEndedOnes: a help of one that has ended begins anew, as of any other.
func TestEndedOnes(t *testing.T) { // P13.1
	w := example(1)
	w.States[0], w.Frozen[0], w.Infos = record.Committed, true, []int{0, -1, -1}
	p := wantPlay(t, w, plans(planP()), lists([]int{0}), make([]int, 9))
	if p.World.Infos[1] != 0 || p.Answers[0][0] != 1 {
		t.Errorf("%v", p)
	}
	two := example(2)
	two.States, two.Frozen, two.Infos = []int{record.Committed, record.InProgress}, []bool{true, false}, []int{0, 1, -1}
	p = wantPlay(t, two, plans(planP(), planQ()), lists([]int{0}), make([]int, 9))
	if !slices.Equal(p.Answers[0], []int{1}) || !sameWorld(p.World, two) {
		t.Errorf("all frozen, and a record that another one has since: %v", p)
	}
	two.States[0], two.Frozen[0] = record.Aborted, false
	p = wantPlay(t, two, plans(planP(), planQ()), lists([]int{0}), make([]int, 9))
	if !slices.Equal(p.Answers[0], []int{0}) || !sameWorld(p.World, two) {
		t.Errorf("aborted before, and aborted again: %v", p)
	}
}

func TestScriptsWithoutNumbers(t *testing.T) { // P13.1
	p := wantPlay(t, record.World{}, nil, lists(nil, []int{}), []int{0, 1, 2})
	if !slices.Equal(p.Ended, []bool{true, true}) || len(p.Answers) != 2 || len(p.Steps) != 3 || p.Steps[0].Kind != -1 {
		t.Errorf("%v", p)
	}
	p = wantPlay(t, example(1), plans(planP()), lists(nil, []int{0}), nil)
	if !slices.Equal(p.Ended, []bool{true, false}) || !sameWorld(p.World, example(1)) {
		t.Errorf("%v", p)
	}
}

// bigWorld: all is as big as it may be, and each SCX-record goes over all records.
func bigWorld() (record.World, []help.Plan) {
	w := record.World{Infos: slices.Repeat([]int{-1}, 64), Marks: make([]bool, 64), States: make([]int, 64), Frozen: make([]bool, 64)}
	var all []int
	for i := range 64 {
		w.Fields = append(w.Fields, slices.Repeat([]int{i}, 64))
		all = append(all, i)
	}
	var ps []help.Plan
	for i := range 64 {
		ps = append(ps, help.Plan{V: slices.Clone(all), Infos: slices.Repeat([]int{-1}, 64), Fin: slices.Repeat([]bool{true}, 64), At: 63, Field: i, Old: 63, New: i})
	}
	return w, ps
}

func TestAtTheLimits(t *testing.T) { // P13.1
	w, ps := bigWorld()
	if e := help.Check(w, ps); e != api.OK {
		t.Fatalf("Check: %d", e)
	}
	if kinds := wantKinds(t, w, ps, 63); len(kinds) != 64+1+64+1+1 {
		t.Errorf("%d accesses", len(kinds))
	}
	scripts := make([][]int, 64)
	for i := range scripts {
		scripts[i] = slices.Repeat([]int{i, 0}, 500)
	}
	picks, _ := baton.Robin(64, 300)
	wantPlay(t, w, ps, scripts, picks)
	if p, e := help.Play(example(1), plans(planP()), lists([]int{0}), make([]int, 1000000)); e != api.OK || len(p.Steps) != 1000000 || !p.Ended[0] {
		t.Errorf("Play of 1000000 picks: %d steps, %d", len(p.Steps), e)
	}
}

// with: the plan P, but for one thing.
func with(change func(p *help.Plan)) help.Plan {
	p := planP()
	change(&p)
	return p
}

// worldWith: the example's, but for one thing.
func worldWith(change func(w *record.World)) record.World {
	w := example(1)
	change(&w)
	return w
}

func TestPlansNotInForm(t *testing.T) { // P13.1
	for name, p := range map[string]help.Plan{
		"nothing":                      {},
		"an empty V":                   {V: []int{}, Infos: []int{}, Fin: []bool{}},
		"no such record":               with(func(p *help.Plan) { p.V[1] = 3 }),
		"a record below 0":             with(func(p *help.Plan) { p.V[1] = -1 }),
		"the first one too":            with(func(p *help.Plan) { p.V[0] = math.MinInt }),
		"Infos too short":              with(func(p *help.Plan) { p.Infos = []int{-1} }),
		"Infos too long":               with(func(p *help.Plan) { p.Infos = []int{-1, -1, -1} }),
		"Infos much too long":          with(func(p *help.Plan) { p.Infos = make([]int, 65) }),
		"no Infos":                     with(func(p *help.Plan) { p.Infos = nil }),
		"Fin too short":                with(func(p *help.Plan) { p.Fin = []bool{true} }),
		"Fin too long":                 with(func(p *help.Plan) { p.Fin = make([]bool, 3) }),
		"Fin much too long":            with(func(p *help.Plan) { p.Fin = make([]bool, 65) }),
		"no such SCX-record":           with(func(p *help.Plan) { p.Infos[0] = 2 }),
		"an SCX-record below -1":       with(func(p *help.Plan) { p.Infos[1] = -2 }),
		"an SCX-record above all":      with(func(p *help.Plan) { p.Infos[1] = math.MaxInt }),
		"At below 0":                   with(func(p *help.Plan) { p.At = -1 }),
		"At above":                     with(func(p *help.Plan) { p.At = 2 }),
		"At far above":                 with(func(p *help.Plan) { p.At = math.MaxInt }),
		"At a record without a field":  with(func(p *help.Plan) { p.At = 1 }),
		"Field below 0":                with(func(p *help.Plan) { p.Field = -1 }),
		"Field above":                  with(func(p *help.Plan) { p.Field = 2 }),
		"Old above":                    with(func(p *help.Plan) { p.Old = 3 }),
		"Old below -1":                 with(func(p *help.Plan) { p.Old = -2 }),
		"New above":                    with(func(p *help.Plan) { p.New = 3 }),
		"New below -1":                 with(func(p *help.Plan) { p.New = -2 }),
		"Q of a record without fields": {V: []int{1}, Infos: []int{-1}, Fin: []bool{false}, Old: -1, New: 2},
	} {
		wantRefused(t, name, example(1), plans(p), lists([]int{0}), nil, api.ErrForm)
		wantRefused(t, "the second one: "+name, example(2), plans(planP(), p), lists([]int{0}), nil, api.ErrForm)
	}
	for name, p := range map[string]help.Plan{
		"nothing of it": planP(),
		"nil, nil":      with(func(p *help.Plan) { p.Old, p.New = -1, -1 }),
		"the last ones": with(func(p *help.Plan) { p.V, p.Infos, p.Field, p.Old, p.New = []int{2, 0}, []int{0, 0}, 1, 2, 2; p.At = 1 }),
		"twice":         with(func(p *help.Plan) { p.V = []int{0, 0} }),
	} {
		if e := help.Check(example(1), plans(p)); e != api.OK {
			t.Errorf("%s: %d", name, e)
		}
	}
}

// wantRefused: by Check, Play and Kinds alike.
func wantRefused(t *testing.T, name string, w record.World, ps []help.Plan, scripts [][]int, picks []int, want api.Errno) {
	t.Helper()
	if e := help.Check(w, ps); e != want {
		t.Errorf("%s: Check = %d, want %d", name, e, want)
	}
	wantPlayRefused(t, name, w, ps, scripts, picks, want)
	if kinds, e := help.Kinds(w, ps, 99); e != want || kinds != nil {
		t.Errorf("%s: Kinds = %v, %d, want %d", name, kinds, e, want)
	}
}

func wantPlayRefused(t *testing.T, name string, w record.World, ps []help.Plan, scripts [][]int, picks []int, want api.Errno) {
	t.Helper()
	p, e := help.Play(w, ps, scripts, picks)
	if e != want || p.Steps != nil || p.Ended != nil || p.Answers != nil || p.World.Fields != nil || p.World.Infos != nil || p.World.Marks != nil || p.World.States != nil || p.World.Frozen != nil {
		t.Errorf("%s: Play = %v, %d, want %d", name, p, e, want)
	}
}

func TestWorldsRefused(t *testing.T) { // P13.1
	one, longV := plans(planP()), with(func(p *help.Plan) { p.V = make([]int, 65) })
	broken := func(w *record.World) { w.Marks = nil }
	// What comes later in the chapter's order is wrong too: it isn't told.
	late := [][]int{{99}, make([]int, 1001)}
	for _, c := range []struct {
		name string
		w    record.World
		ps   []help.Plan
		want api.Errno
	}{
		{"65 records", worldWith(func(w *record.World) { w.Fields = make([][]int, 65); broken(w) }), one, api.ErrBig},
		{"65 SCX-records", worldWith(func(w *record.World) { w.States = make([]int, 65); broken(w) }), one, api.ErrBig},
		{"65 fields", worldWith(func(w *record.World) { w.Fields[2] = make([]int, 65); broken(w) }), one, api.ErrBig},
		{"65 in a V", worldWith(broken), plans(longV), api.ErrBig},
		{"65 in a later V", worldWith(broken), plans(help.Plan{}, longV), api.ErrBig},
		{"Marks", worldWith(broken), one, api.ErrForm},
		{"Infos", worldWith(func(w *record.World) { w.Infos[2] = 1 }), one, api.ErrForm},
		{"Infos' length", worldWith(func(w *record.World) { w.Infos = make([]int, 65) }), one, api.ErrForm},
		{"Frozen", worldWith(func(w *record.World) { w.Frozen = nil }), one, api.ErrForm},
		{"a state", worldWith(func(w *record.World) { w.States[0] = 3 }), one, api.ErrForm},
		{"a state below 0", worldWith(func(w *record.World) { w.States[0] = -1 }), one, api.ErrForm},
		{"a field", worldWith(func(w *record.World) { w.Fields[0][1] = 3 }), one, api.ErrForm},
		{"a field below -1", worldWith(func(w *record.World) { w.Fields[0][1] = -2 }), one, api.ErrForm},
		{"too many plans", example(1), plans(planP(), planP()), api.ErrForm},
		{"65 plans", example(1), slices.Repeat(one, 65), api.ErrForm},
		{"too few", example(2), one, api.ErrForm},
		{"none", example(1), nil, api.ErrForm},
		{"a plan without a world", record.World{}, one, api.ErrForm},
	} {
		wantRefused(t, c.name, c.w, c.ps, late, make([]int, 1000001), c.want)
		wantRefused(t, c.name+", no scripts", c.w, c.ps, nil, nil, c.want)
	}
}

func TestScriptsRefused(t *testing.T) { // P13.1
	w, ps := example(2), plans(planP(), planQ())
	tooLong, tooMany := make([]int, 1001), make([]int, 1000001)
	for _, c := range []struct {
		name    string
		scripts [][]int
		picks   []int
		want    api.Errno
	}{
		{"no such SCX-record", lists([]int{0, 1, 2}), nil, api.ErrArg},
		{"one below 0", lists(nil, []int{-1}), nil, api.ErrArg},
		{"far above", lists(nil, []int{math.MaxInt}), nil, api.ErrArg},
		{"no workers", nil, nil, api.ErrArg},
		{"65 workers", make([][]int, 65), nil, api.ErrArg},
		{"too many picks", lists([]int{0}), tooMany, api.ErrBig},
		{"a script that is too long", lists(nil, tooLong), nil, api.ErrBig},
		{"a number counts ahead of a script's length", lists(append(slices.Clone(tooLong), 2)), nil, api.ErrArg},
		{"and of the picks", lists([]int{2}), tooMany, api.ErrArg},
		{"and of a script's length ahead of it", lists(tooLong, []int{2}), tooMany, api.ErrArg},
		{"the number of workers counts ahead of what is big", slices.Repeat(lists(tooLong), 65), tooMany, api.ErrArg},
		{"no workers, and too many picks", nil, tooMany, api.ErrArg},
	} {
		wantPlayRefused(t, c.name, w, ps, c.scripts, c.picks, c.want)
	}
	if e := help.Check(w, ps); e != api.OK {
		t.Errorf("Check = %d", e)
	}
	for _, scx := range []int{-1, 2, math.MinInt, math.MaxInt} {
		if kinds, e := help.Kinds(w, ps, scx); e != api.ErrArg || kinds != nil {
			t.Errorf("Kinds of %d: %v, %d", scx, kinds, e)
		}
	}
	if kinds, e := help.Kinds(record.World{}, nil, 0); e != api.ErrArg || kinds != nil {
		t.Errorf("Kinds of nothing: %v, %d", kinds, e)
	}
}
