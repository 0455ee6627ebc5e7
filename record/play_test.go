package record_test

import (
	"math"
	"math/rand"
	"slices"
	"testing"

	"larch/api"
	"larch/record"
)

func TestPlayByExamples(t *testing.T) { // P12.1
	get, info := record.Act{Kind: record.Get}, record.Act{Kind: record.Info}
	freeze := record.Act{Kind: record.Freeze, B: -1}
	answers, w, kinds, e := record.Play(example(), acts(get, record.Act{Kind: record.Swing, B: 1, C: -1}, record.Act{Kind: record.Swing, B: 1}, get, info, record.Act{Kind: record.Info, At: 1}, freeze, info, freeze))
	want := record.World{Fields: [][]int{{-1}, {}}, Infos: []int{0, 0}, Marks: []bool{false, false}, States: []int{0}, Frozen: []bool{false}}
	if e != api.OK || !slices.Equal(answers, []int{1, 1, 0, -1, -1, 0, 1, 0, 0}) || !sameWorld(w, want) || !slices.Equal(kinds, []int{1, 5, 5, 1, 1, 1, 5, 1, 5}) {
		t.Errorf("example 1: %v, %v, %v, %d", answers, w, kinds, e)
	}
	var list []record.Act
	for _, kind := range []int{record.Marked, record.Mark, record.Marked, record.State, record.Commit, record.State, record.AllFrozen, record.SetAllFrozen, record.AllFrozen, record.Abort} {
		a := record.Act{Kind: kind}
		if kind <= record.Mark {
			a.At = 1
		}
		list = append(list, a)
	}
	answers, w, kinds, e = record.Play(example(), list)
	want = record.World{Fields: [][]int{{1}, {}}, Infos: []int{-1, 0}, Marks: []bool{false, true}, States: []int{2}, Frozen: []bool{true}}
	if e != api.OK || !slices.Equal(answers, []int{0, 0, 1, 0, 0, 1, 0, 0, 1, 0}) || !sameWorld(w, want) || !slices.Equal(kinds, []int{1, 2, 1, 1, 2, 1, 1, 2, 1, 2}) {
		t.Errorf("example 2: %v, %v, %v, %d", answers, w, kinds, e)
	}
	answers, _ = wantPlay(t, example(), acts(record.Act{Kind: record.Swing, B: -1, C: 1}))
	if answers[0] != 0 {
		t.Errorf("example 3: Swing from nil = %d", answers[0])
	}
}

// TestPlayOfAllPairsOfActs: each act behind each other one, in small worlds.
func TestPlayOfAllPairsOfActs(t *testing.T) { // P12.1
	worlds := []record.World{
		example(),
		{Fields: [][]int{{-1, 0}, {0}}, Infos: []int{1, -1}, Marks: []bool{true, false}, States: []int{1, 2}, Frozen: []bool{true, false}},
		{Fields: [][]int{{0}}, Infos: []int{-1}, Marks: []bool{false}},
		{States: []int{0, 2}, Frozen: []bool{false, true}},
	}
	for _, w := range worlds {
		all := actsOf(w)
		for _, first := range all {
			for _, second := range all {
				wantPlay(t, w, acts(first, second, first, second))
			}
		}
		wantPlay(t, w, all)
		wantPlay(t, w, nil)
	}
	wantPlay(t, record.World{}, nil)
}

func TestPlayByChance(t *testing.T) { // P12.1
	r := rand.New(rand.NewSource(1))
	for range 1000 {
		w := someWorld(r, 1+r.Intn(4), 1+r.Intn(3), 3)
		var list []record.Act
		for range r.Intn(60) {
			list = append(list, someAct(r, w))
		}
		wantPlay(t, w, list)
	}
}

// TestWhatAKindDoesNotUse: it may be any number.
func TestWhatAKindDoesNotUse(t *testing.T) { // P12.1
	for _, odd := range []int{math.MinInt, -1, 99, math.MaxInt} {
		for _, kind := range []int{record.Info, record.Marked, record.Mark, record.State, record.Commit, record.Abort, record.AllFrozen, record.SetAllFrozen} {
			wantPlay(t, example(), acts(record.Act{Kind: kind, A: odd, B: odd, C: odd}))
		}
		wantPlay(t, example(), acts(record.Act{Kind: record.Get, B: odd, C: odd}, record.Act{Kind: record.Freeze, A: odd, B: -1}))
	}
}

func TestPlayAtTheLimits(t *testing.T) { // P12.1
	r := rand.New(rand.NewSource(2))
	w := someWorld(r, api.MaxCells, api.MaxCells, api.MaxCells)
	w.Fields[7] = slices.Repeat([]int{63}, api.MaxCells)
	w.Fields[63] = slices.Repeat([]int{-1}, api.MaxCells)
	var list []record.Act
	for len(list) < api.MaxOps-2 {
		list = append(list, someAct(r, w))
	}
	list = append(list, record.Act{Kind: record.Swing, At: 63, A: 63, B: -1, C: 63}, record.Act{Kind: record.Freeze, At: 7, B: w.Infos[7], C: 63})
	wantPlay(t, w, list)
}

// refuse: is what Play answers beside an error empty?
func refuse(t *testing.T, name string, w record.World, list []record.Act, want api.Errno) {
	t.Helper()
	answers, then, kinds, e := record.Play(w, list)
	if e != want {
		t.Errorf("%s: %d, want %d", name, e, want)
	}
	if e != api.OK && (answers != nil || kinds != nil || then.Fields != nil || then.Infos != nil || then.Marks != nil || then.States != nil || then.Frozen != nil) {
		t.Errorf("%s: %v, %v, %v beside an error", name, answers, then, kinds)
	}
}

// TestWorldsThatAreNotInForm: in each way; a world's form counts ahead of the acts.
func TestWorldsThatAreNotInForm(t *testing.T) { // P12.1
	for name, turn := range map[string]func(w *record.World){
		"a field of a record that isn't there":   func(w *record.World) { w.Fields[0][0] = 2 },
		"a field of a record far away":           func(w *record.World) { w.Fields[0][0] = math.MaxInt },
		"a field below -1":                       func(w *record.World) { w.Fields[0][0] = -2 },
		"a field of the least number":            func(w *record.World) { w.Fields[0][0] = math.MinInt },
		"the last field of the last record":      func(w *record.World) { w.Fields[1] = []int{0, 1, -1, 2} },
		"an info of an SCX-record far away":      func(w *record.World) { w.Infos[0] = 5 },
		"an info of the SCX-record at the end":   func(w *record.World) { w.Infos[1] = 1 },
		"an info below -1":                       func(w *record.World) { w.Infos[1] = -2 },
		"an info where there are no SCX-records": func(w *record.World) { w.States, w.Frozen = nil, nil },
		"too few infos":                          func(w *record.World) { w.Infos = w.Infos[:1] },
		"too many infos":                         func(w *record.World) { w.Infos = append(w.Infos, -1) },
		"no infos":                               func(w *record.World) { w.Infos = nil },
		"too few marks":                          func(w *record.World) { w.Marks = w.Marks[:1] },
		"too many marks":                         func(w *record.World) { w.Marks = append(w.Marks, false) },
		"very many marks":                        func(w *record.World) { w.Marks = make([]bool, 100) },
		"very many infos":                        func(w *record.World) { w.Infos = make([]int, 100) },
		"very many frozen":                       func(w *record.World) { w.Frozen = make([]bool, 100) },
		"too few frozen":                         func(w *record.World) { w.Frozen = nil },
		"too many frozen":                        func(w *record.World) { w.Frozen = append(w.Frozen, true) },
		"frozen without states":                  func(w *record.World) { w.States, w.Infos = nil, []int{-1, -1} },
		"a state of 3":                           func(w *record.World) { w.States[0] = 3 },
		"a state of -1":                          func(w *record.World) { w.States[0] = -1 },
		"the greatest state":                     func(w *record.World) { w.States[0] = math.MaxInt },
		"the second state":                       func(w *record.World) { w.States, w.Frozen = []int{0, 4}, []bool{true, true} },
		"no records, but infos":                  func(w *record.World) { w.Fields, w.Marks = nil, nil },
		"no records, but marks":                  func(w *record.World) { w.Fields, w.Infos = nil, nil },
	} {
		w := example()
		turn(&w)
		refuse(t, name, w, nil, api.ErrForm)
		refuse(t, name+", and a bad act", w, acts(record.Act{Kind: 12}, record.Act{At: -1}), api.ErrForm)
		refuse(t, name+", and too many acts", w, make([]record.Act, api.MaxOps+1), api.ErrBig)
	}
	refuse(t, "the example", example(), nil, api.OK)
}

// TestWorldsThatAreTooBig: what is too big counts ahead of all else.
func TestWorldsThatAreTooBig(t *testing.T) { // P12.1
	big := func(records, scxs int) record.World {
		return record.World{Fields: make([][]int, records), Infos: slices.Repeat([]int{-1}, records), Marks: make([]bool, records), States: make([]int, scxs), Frozen: make([]bool, scxs)}
	}
	wide := example()
	wide.Fields[1] = make([]int, api.MaxCells+1)
	odd := example()
	odd.Fields[0][0], odd.Fields[1] = 9, make([]int, api.MaxCells+1)
	many := slices.Repeat(acts(record.Act{Kind: record.Get}), api.MaxOps+1)
	for name, c := range map[string]struct {
		w    record.World
		list []record.Act
	}{
		"65 records": {big(65, 1), nil}, "65 SCX-records": {big(1, 65), nil}, "65 fields": {wide, nil}, "1001 acts": {example(), many}, "1001 acts in no world": {record.World{}, make([]record.Act, api.MaxOps+1)},
		"65 records alone": {record.World{Fields: make([][]int, 65)}, nil}, "65 states alone": {record.World{States: make([]int, 65)}, acts(record.Act{})}, "65 fields, not in form": {odd, acts(record.Act{Kind: 12})},
	} {
		refuse(t, name, c.w, c.list, api.ErrBig)
	}
	refuse(t, "64 of all", big(64, 64), many[:0], api.OK)
	refuse(t, "1000 acts", example(), many[:api.MaxOps], api.OK)
}

func TestActsOutOfTheirRange(t *testing.T) { // P12.1
	w := record.World{Fields: [][]int{{1, -1}, {}, {0, 0}}, Infos: []int{-1, 0, 1}, Marks: make([]bool, 3), States: []int{0, 1}, Frozen: make([]bool, 2)}
	far := []int{math.MinInt, -2, 64, math.MaxInt}
	good := func(kind int) record.Act {
		return record.Act{Kind: kind, C: 1}
	}
	check := func(name string, a record.Act, want api.Errno) {
		t.Helper()
		refuse(t, name, w, acts(good(record.Mark), a), want)
		refuse(t, name+", ahead of one that is fine", w, acts(a, good(record.Mark)), want)
	}
	for kind := record.Get; kind <= record.SetAllFrozen; kind++ {
		check("a good one", good(kind), api.OK)
		first := 3 // the first number of no record
		if kind >= record.State {
			first = 2
		}
		for _, at := range append(far, -1, first) {
			a := good(kind)
			a.At = at
			check("At", a, api.ErrArg)
		}
		a := good(kind)
		a.At = first - 1
		check("the last At", a, api.OK)
	}
	for _, kind := range []int{record.Get, record.Swing} {
		for _, field := range append(far, -1, 2) {
			check("a field", record.Act{Kind: kind, A: field}, api.ErrArg)
		}
		check("the last field", record.Act{Kind: kind, A: 1}, api.OK)
		check("a field of a record that has none", record.Act{Kind: kind, At: 1}, api.ErrArg)
	}
	for _, n := range append(far, 3) {
		check("Swing from", record.Act{Kind: record.Swing, B: n}, api.ErrArg)
		check("Swing to", record.Act{Kind: record.Swing, C: n}, api.ErrArg)
	}
	for _, n := range append(far, 2) {
		check("Freeze from", record.Act{Kind: record.Freeze, B: n}, api.ErrArg)
		check("Freeze to", record.Act{Kind: record.Freeze, C: n}, api.ErrArg)
	}
	for _, n := range []int{-1, 0, 2} {
		check("Swing from", record.Act{Kind: record.Swing, B: n}, api.OK)
		check("Swing to", record.Act{Kind: record.Swing, C: n}, api.OK)
	}
	check("Freeze from the first info", record.Act{Kind: record.Freeze, B: -1}, api.OK)
	check("Freeze from the last one", record.Act{Kind: record.Freeze, B: 1, C: 1}, api.OK)
	check("Freeze to the first info", record.Act{Kind: record.Freeze, C: -1}, api.ErrArg)
	for _, kind := range []int{math.MinInt, -1, 0, 12, math.MaxInt} {
		check("a kind", record.Act{Kind: kind}, api.ErrKind)
		check("a kind, out of range", record.Act{Kind: kind, At: 99, A: 99}, api.ErrKind)
	}
}

func TestActsThatAreRefused(t *testing.T) { // P12.1
	bad, lost := record.Act{Kind: 12}, record.Act{Kind: record.Get, A: 1}
	refuse(t, "the bad one first", example(), acts(bad, lost), api.ErrKind)
	refuse(t, "the lost one first", example(), acts(lost, bad), api.ErrArg)
	for name, c := range map[string]struct {
		act  record.Act
		want api.Errno
	}{
		"Get 0 1":     {lost, api.ErrArg},
		"Get 2 0":     {record.Act{Kind: record.Get, At: 2}, api.ErrArg},
		"Get 1 0":     {record.Act{Kind: record.Get, At: 1}, api.ErrArg},
		"Freeze 0 -1": {record.Act{Kind: record.Freeze, C: -1}, api.ErrArg},
		"kind 12":     {bad, api.ErrKind},
	} {
		refuse(t, name, example(), acts(c.act), c.want)
	}
	refuse(t, "an act in an empty world", record.World{}, acts(record.Act{Kind: record.Mark}), api.ErrArg)
	refuse(t, "an SCX-record in an empty world", record.World{}, acts(record.Act{Kind: record.State}), api.ErrArg)
}
