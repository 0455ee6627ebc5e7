package llx_test

import (
	"math/rand"
	"slices"
	"testing"

	"larch/api"
	"larch/baton"
	"larch/llx"
	"larch/record"
)

// kindsOf: of the picks of one thread that did something.
func kindsOf(steps []api.Step, thread int) []int {
	var kinds []int
	for _, s := range steps {
		if s.Worker == thread && s.Kind != -1 {
			kinds = append(kinds, s.Kind)
		}
	}
	return kinds
}

func TestLinkAndSwapByExample(t *testing.T) { // P14.2
	p := wantPlay(t, example(), threads(acts(linkOf(0), swapIt())), make([]int, 20))
	if !sameAns(p.Answers[0][0], llx.Ans{Code: llx.Done, Fields: []int{1}, From: 0, To: 6}) || !sameAns(p.Answers[0][1], llx.Ans{Code: 1, From: 7, To: 11}) {
		t.Errorf("answers %v", p.Answers)
	}
	if want := []int{api.Start, api.Load, api.Load, api.Load, api.Load, api.Load, api.Load, api.Start, api.Cas, api.Store, api.Cas, api.Store}; !slices.Equal(kindsOf(p.Steps, 0), want) {
		t.Errorf("kinds %v", kindsOf(p.Steps, 0))
	}
	want := record.World{Fields: [][]int{{2}, {}, {}}, Infos: []int{0, -1, -1}, Marks: make([]bool, 3), States: []int{record.Committed}, Frozen: []bool{true}}
	if !sameWorld(p.World, want) {
		t.Errorf("world %v", p.World)
	}
}

func TestWithoutALinkByExample(t *testing.T) { // P14.2
	p := wantPlay(t, example(), threads(acts(swapIt())), make([]int, 3))
	if !sameAns(p.Answers[0][0], llx.Ans{Code: -1}) || len(p.World.States) != 0 || !p.Steps[0].Ended {
		t.Errorf("a Swap without a link: %v", p)
	}
	p = wantPlay(t, example(), threads(acts(checkOf(0))), make([]int, 3))
	if !sameAns(p.Answers[0][0], llx.Ans{Code: -1}) {
		t.Errorf("a Check without a link: %v", p)
	}
	p = wantPlay(t, example(), threads(acts(linkOf(0), swapIt(), checkOf(0))), make([]int, 20))
	if !sameAns(p.Answers[0][2], llx.Ans{Code: -1, From: 12, To: 12}) {
		t.Errorf("a Check behind a Swap: %v", p.Answers)
	}
}

func TestTwoThreadsByExample(t *testing.T) { // P14.2
	scripts := threads(acts(linkOf(0), swapIt()), acts(linkOf(0), checkOf(0)))
	picks := slices.Concat(times(7, 0), times(7, 1), times(5, 0), times(2, 1))
	p := wantPlay(t, example(), scripts, picks)
	if p.Answers[0][1].Code != 1 || !sameAns(p.Answers[1][1], llx.Ans{Code: 0, From: 19, To: 20}) || !slices.Equal(kindsOf(p.Steps, 1)[7:], []int{api.Start, api.Load}) {
		t.Errorf("%v", p)
	}
}

func TestFinalByExample(t *testing.T) { // P14.2, P14.4
	swap := swapIt()
	swap.Fin = []bool{true}
	p := wantPlay(t, example(), threads(acts(linkOf(0), swap, linkOf(0))), make([]int, 30))
	if !slices.Equal(p.World.Marks, []bool{true, false, false}) || !sameAns(p.Answers[0][2], llx.Ans{Code: llx.Final, From: 13, To: 18}) {
		t.Errorf("%v", p)
	}
	if got := kindsOf(p.Steps, 0)[13:]; !slices.Equal(got, []int{api.Start, api.Load, api.Load, api.Load, api.Load, api.Load}) {
		t.Errorf("kinds %v", got)
	}
}

// TestUsedUp: which links a Check or a Swap leaves.
func TestUsedUp(t *testing.T) { // P14.2
	w := record.World{Fields: [][]int{{-1, -1}, {0}, {}, {}, {}}, Infos: slices.Repeat([]int{-1}, 5), Marks: make([]bool, 5)}
	both := swapOf([]int{1, 0}, []bool{false, false}, 1, 1, 2)
	for _, c := range []struct {
		name   string
		script []llx.Act
		codes  []int
	}{
		{"a Check that is right leaves them", acts(linkOf(0), checkOf(0), checkOf(0)), []int{1, 1, 1}},
		{"a Swap uses up all of V", acts(linkOf(0), linkOf(1), both, checkOf(0), checkOf(1)), []int{1, 1, 1, -1, -1}},
		{"and no others", acts(linkOf(0), linkOf(1), linkOf(2), both, checkOf(2)), []int{1, 1, 1, 1, 1}},
		{"an act without a link leaves the others", acts(linkOf(0), both, checkOf(0, 1), checkOf(0)), []int{1, -1, -1, 1}},
		{"a Link again makes it anew", acts(linkOf(0), linkOf(1), both, linkOf(0), checkOf(0)), []int{1, 1, 1, 1, 1}},
		{"a Check of nothing", acts(checkOf()), []int{1}},
		{"a link that is old", acts(linkOf(0), linkOf(0), swapOf([]int{0}, []bool{true}, 0, 0, 3), linkOf(0), checkOf(0)), []int{1, 1, 1, llx.Final, -1}},
	} {
		p := wantPlay(t, w, threads(c.script), make([]int, 60))
		var codes []int
		for _, a := range p.Answers[0] {
			codes = append(codes, a.Code)
		}
		if !slices.Equal(codes, c.codes) {
			t.Errorf("%s: codes %v, want %v", c.name, codes, c.codes)
		}
	}
}

// TestUsedUpByFailing: a Check that answers 0 uses up the links to all of its V; a Swap that answers 0 too; and a Link that fails that of its record.
func TestUsedUpByFailing(t *testing.T) { // P14.2
	w := record.World{Fields: [][]int{{-1}, {-1}, {}, {}, {}}, Infos: slices.Repeat([]int{-1}, 5), Marks: make([]bool, 5)}
	other := acts(linkOf(0), swapOf([]int{0}, []bool{true}, 0, 0, 2))
	for _, c := range []struct {
		name   string
		script []llx.Act
		codes  []int
	}{
		{"Check", acts(linkOf(1), linkOf(0), checkOf(1, 0), checkOf(1), checkOf(0)), []int{1, 1, 0, -1, -1}},
		{"Check, the other way round", acts(linkOf(1), linkOf(0), checkOf(0, 1), checkOf(1), checkOf(0)), []int{1, 1, 0, -1, -1}},
		{"Swap", acts(linkOf(1), linkOf(0), swapOf([]int{1, 0}, []bool{false, false}, 0, 0, 3), checkOf(1), checkOf(0)), []int{1, 1, 0, -1, -1}},
		{"Link", acts(linkOf(1), linkOf(0), linkOf(0), checkOf(0), checkOf(1)), []int{1, 1, llx.Final, -1, 1}},
	} {
		p := wantPlay(t, w, threads(c.script, other), slices.Concat(times(14, 0), times(13, 1), times(40, 0)))
		var codes []int
		for _, a := range p.Answers[0] {
			codes = append(codes, a.Code)
		}
		if !slices.Equal(codes, c.codes) {
			t.Errorf("%s: codes %v, want %v", c.name, codes, c.codes)
		}
	}
}

// TestPending: acts of all kinds that are pending when the picks end.
func TestPending(t *testing.T) { // P14.2
	scripts := threads(acts(linkOf(0), checkOf(0), swapIt()))
	for picks, want := range map[int][]llx.Ans{
		0:  nil,
		1:  {{To: -1}},
		6:  {{To: -1}},
		7:  {{Code: 1, Fields: []int{1}, To: 6}},
		8:  {{Code: 1, Fields: []int{1}, To: 6}, {From: 7, To: -1}},
		9:  {{Code: 1, Fields: []int{1}, To: 6}, {Code: 1, From: 7, To: 8}},
		10: {{Code: 1, Fields: []int{1}, To: 6}, {Code: 1, From: 7, To: 8}, {From: 9, To: -1}},
		13: {{Code: 1, Fields: []int{1}, To: 6}, {Code: 1, From: 7, To: 8}, {From: 9, To: -1}},
		14: {{Code: 1, Fields: []int{1}, To: 6}, {Code: 1, From: 7, To: 8}, {Code: 1, From: 9, To: 13}},
	} {
		p := wantPlay(t, example(), scripts, make([]int, picks))
		if !slices.EqualFunc(p.Answers[0], want, sameAns) {
			t.Errorf("behind %d picks: %v, want %v", picks, p.Answers[0], want)
		}
		if made := len(p.World.States); made != max(0, min(picks-9, 1)) {
			t.Errorf("behind %d picks there are %d SCX-records", picks, made)
		}
	}
}

// TestNumbersOfScxs: behind those of the world, in the order in which they were made, with links or not.
func TestNumbersOfScxs(t *testing.T) { // P14.2
	w := record.World{Fields: [][]int{{-1}, {-1}, {}, {}, {}, {}}, Infos: []int{1, 0, -1, -1, -1, -1}, Marks: make([]bool, 6), States: []int{record.Aborted, record.Committed}, Frozen: []bool{true, false}}
	one := func(n, p int) llx.Act { return swapOf([]int{n}, []bool{false}, 0, 0, p) }
	scripts := threads(acts(linkOf(0), one(0, 2)), acts(one(1, 5), linkOf(1), one(1, 3)))
	p := wantPlay(t, w, scripts, slices.Concat(times(7, 0), times(8, 1), []int{1, 0}, times(9, 1), times(9, 0)))
	if !slices.Equal(p.World.Infos, []int{3, 2, -1, -1, -1, -1}) || !slices.Equal(p.World.States, []int{record.Aborted, record.Committed, record.Committed, record.Committed}) || !slices.Equal(p.World.Frozen, []bool{true, false, true, true}) {
		t.Errorf("%v", p.World)
	}
	p = wantPlay(t, w, scripts, slices.Concat(times(7, 0), times(8, 1), []int{1, 0}))
	if !slices.Equal(p.World.States[2:], []int{0, 0}) || !slices.Equal(p.World.Infos[:2], []int{1, 0}) {
		t.Errorf("made in the pick of their Start: %v", p.World)
	}
}

func TestPlayUnderAllPicks(t *testing.T) { // P14.2
	w := record.World{Fields: [][]int{{1, -1}, {}, {}, {}}, Infos: slices.Repeat([]int{-1}, 4), Marks: make([]bool, 4)}
	scripts := threads(
		acts(linkOf(0), swapOf([]int{0}, []bool{true}, 0, 1, 2)),
		acts(linkOf(0), swapOf([]int{0}, []bool{false}, 0, 0, 3), linkOf(0)),
	)
	lead := slices.Concat(times(8, 0), times(8, 1)) // both are linked
	eachList(2, 12, func(picks []int) { wantPlay(t, w, scripts, slices.Concat(lead, picks)) })
	eachList(2, 11, func(picks []int) { wantMoments(t, w, scripts, slices.Concat(lead, picks, times(8, 1))) })
	look := threads(acts(linkOf(0), swapOf([]int{0}, []bool{true}, 0, 1, 2)), acts(linkOf(0), checkOf(0)))
	eachList(2, 13, func(picks []int) { wantPlay(t, w, look, slices.Concat(times(8, 0), picks)) })
}

func TestPlayIsTheMachine(t *testing.T) { // P14.2
	r := rand.New(rand.NewSource(1))
	codes := map[[2]int]int{}
	helped := 0
	for range 10000 {
		g := someGame(r, 1+r.Intn(4), 5)
		p := wantPlay(t, g.w, g.scripts, somePicks(r, len(g.scripts), 150))
		for i, answers := range p.Answers {
			for j, a := range answers {
				codes[[2]int{g.scripts[i][j].Kind, a.Code}]++
				if g.scripts[i][j].Kind == llx.Link && a.To != -1 && slices.Contains(kindsOf(p.Steps[a.From:a.To+1], i), api.Cas) {
					helped++
				}
			}
		}
	}
	if helped < 200 {
		t.Errorf("just %d Links have helped", helped)
	}
	for _, want := range [][2]int{{llx.Link, llx.Fail}, {llx.Link, llx.Done}, {llx.Link, llx.Final}, {llx.Check, -1}, {llx.Check, 0}, {llx.Check, 1}, {llx.Swap, -1}, {llx.Swap, 0}, {llx.Swap, 1}} {
		if codes[want] < 200 {
			t.Errorf("kind %d with code %d: just %d times", want[0], want[1], codes[want])
		}
	}
}

func TestMomentsIsTheMachine(t *testing.T) { // P14.2
	r := rand.New(rand.NewSource(2))
	for range 1500 {
		g := someGame(r, 1+r.Intn(4), 5)
		wantMoments(t, g.w, g.scripts, somePicks(r, len(g.scripts), 120))
	}
}

func TestMomentsByExample(t *testing.T) { // P14.2
	m := wantMoments(t, example(), threads(acts(linkOf(0), swapIt())), make([]int, 12))
	if len(m) != 13 || m[10][0][0] != 1 || m[11][0][0] != 2 {
		t.Errorf("%v", m)
	}
	m = wantMoments(t, example(), threads(acts(linkOf(0), swapIt())), nil)
	if len(m) != 1 || !sameRows(m[0], example().Fields) {
		t.Errorf("%v", m)
	}
	m = wantMoments(t, record.World{}, threads(nil), []int{0, 7, -1})
	if len(m) != 4 || len(m[3]) != 0 {
		t.Errorf("of nothing: %v", m)
	}
}

// bigWorld: all is as big as it may be; record 32 stands in all fields.
func bigWorld() record.World {
	w := record.World{Infos: slices.Repeat([]int{-1}, 64), Marks: make([]bool, 64), States: slices.Repeat([]int{record.Committed}, 64), Frozen: make([]bool, 64)}
	for range 64 {
		w.Fields = append(w.Fields, slices.Repeat([]int{32}, 64))
	}
	return w
}

func TestAtTheLimits(t *testing.T) { // P14.2
	w := bigWorld()
	all := make([]int, 64)
	for i := range all {
		all[i] = i
	}
	scripts := make([][]llx.Act, 64)
	for i := range scripts {
		for n := range 64 {
			scripts[i] = append(scripts[i], linkOf(n))
		}
		if i < 31 {
			scripts[i] = append(scripts[i], swapOf(all, make([]bool, 64), i, 63, 33+i))
		}
		for len(scripts[i]) < 1000 {
			scripts[i] = append(scripts[i], checkOf(all...))
		}
	}
	picks := slices.Concat(times(64*70+135, 63), times(64*70, 3), times(64*70, 4), times(140, 4), times(140, 3))
	p := wantPlay(t, w, scripts, picks)
	if p.Answers[4][64].Code != 1 || p.Answers[3][64].Code != 0 || p.Answers[63][65].Code != 1 || len(p.World.States) != 66 {
		t.Errorf("%v, %d SCX-records", p.Answers[4][64:], len(p.World.States))
	}
	if m := wantMoments(t, w, scripts, times(3000, 0)); len(m) != 3001 {
		t.Errorf("%d moments", len(m))
	}
	if p, e := llx.Play(example(), threads(acts(linkOf(0))), make([]int, 1000000)); e != api.OK || len(p.Steps) != 1000000 {
		t.Errorf("Play of 1000000 picks: %d steps, %d", len(p.Steps), e)
	}
	robin, _ := baton.Robin(64, 100)
	wantPlay(t, w, scripts, robin)
}

// TestPicksGoOn: a play of a list is the play of its beginning, and on.
func TestPicksGoOn(t *testing.T) { // P14.2
	r := rand.New(rand.NewSource(3))
	for range 200 {
		g := someGame(r, 1+r.Intn(3), 4)
		picks := somePicks(r, len(g.scripts), 80)
		m := wantMoments(t, g.w, g.scripts, picks)
		for n := 0; n <= len(picks); n += 1 + r.Intn(9) {
			if p := mustPlay(t, g.w, g.scripts, picks[:n]); !sameRows(p.World.Fields, m[n]) {
				t.Fatalf("behind %d picks: %v, and by Moments %v", n, p.World.Fields, m[n])
			}
		}
	}
}
