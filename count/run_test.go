package count_test

import (
	"math"
	"math/rand"
	"slices"
	"testing"

	"larch/api"
	"larch/baton"
	"larch/count"
)

var inc = count.Op{Kind: count.Inc, A: 1}

func TestRunByExamples(t *testing.T) { // P8.1
	two := threads(ops(inc), ops(inc))
	d, e := count.Run([]int{0}, two, []int{0, 1, 0, 1, 0, 1, 1, 1})
	want := count.Done{
		Answers: [][]count.Ans{{{Val: 1, Ok: true, From: 0, To: 4}}, {{Val: 2, Ok: true, From: 1, To: 7}}},
		Cells:   []int{2},
		Steps:   []api.Step{{Worker: 0}, {Worker: 1}, {Worker: 0, Kind: 1}, {Worker: 1, Kind: 1}, {Worker: 0, Kind: 5, Ended: true}, {Worker: 1, Kind: 5}, {Worker: 1, Kind: 1}, {Worker: 1, Kind: 5, Ended: true}},
	}
	if e != api.OK || !sameDone(d, want) {
		t.Errorf("example 1: %v, %d", d, e)
	}
	d, e = count.Run([]int{0}, two, []int{0, 1, 0, 1, 0})
	want = count.Done{Answers: [][]count.Ans{{{Val: 1, Ok: true, From: 0, To: 4}}, {{From: 1, To: -1}}}, Cells: []int{1}, Steps: want.Steps[:5]}
	if e != api.OK || !sameDone(d, want) {
		t.Errorf("example 2: %v, %d", d, e)
	}
}

// TestRunUnderAllPicks: small scripts, all lists of picks.
func TestRunUnderAllPicks(t *testing.T) { // P8.1, P8.2
	for _, c := range []struct {
		cells   []int
		scripts [][]count.Op
	}{
		{[]int{0}, threads(ops(inc), ops(inc, count.Op{Kind: count.Plus, A: 2}))},
		{[]int{0}, threads(ops(count.Op{Kind: count.Top, A: 2}), ops(count.Op{Kind: count.Top, A: 3}))},
		{[]int{0}, threads(ops(count.Op{Kind: count.Top, A: 3}), ops(count.Op{Kind: count.Top, A: 2}, count.Op{Kind: count.Ticket}))},
		{[]int{1}, threads(ops(count.Op{Kind: count.Take}), ops(count.Op{Kind: count.Take}, count.Op{Kind: count.Take}))},
		{[]int{0, 0}, threads(ops(count.Op{Kind: count.Locked, A: 1}), ops(count.Op{Kind: count.Locked, A: 1}))},
		{[]int{1, 0}, threads(ops(count.Op{Kind: count.Locked, A: 1}), ops(count.Op{Kind: count.Plus, A: -1}, count.Op{Kind: count.Sum}))},
		{[]int{5, 7}, threads(ops(count.Op{Kind: count.Sum}), ops(count.Op{Kind: count.Ticket, At: 1}, count.Op{Kind: count.Inc, A: -5}))},
		{nil, threads(ops(count.Op{Kind: count.Sum, At: 9}), ops(count.Op{Kind: count.Sum}, count.Op{Kind: count.Sum, A: -1}))},
		{[]int{math.MaxInt}, threads(ops(inc), ops(count.Op{Kind: count.Take}, inc))},
	} {
		eachList(2, 10, func(picks []int) {
			wantRun(t, c.cells, c.scripts, picks)
			wantHeld(t, c.cells, c.scripts, picks)
		})
	}
}

func TestRunByChance(t *testing.T) { // P8.1, P8.2
	r := rand.New(rand.NewSource(1))
	for range 1500 {
		cells := someCells(r, 2+r.Intn(3))
		scripts := someScripts(r, 1+r.Intn(5), 6, len(cells))
		picks := somePicks(r, len(scripts), 120)
		wantRun(t, cells, scripts, picks)
		wantHeld(t, cells, scripts, picks)
	}
}

// TestPicksThatDoNothing: of nobody, and of threads that have ended; they count in From and To.
func TestPicksThatDoNothing(t *testing.T) { // P8.1
	scripts := threads(nil, ops(inc, count.Op{Kind: count.Sum}))
	d := wantRun(t, []int{7}, scripts, []int{0, 2, 1, -1, math.MinInt, 1, 0, 1, math.MaxInt, 1, 1, 1, 1, 0})
	if want := []count.Ans{{Val: 8, Ok: true, From: 2, To: 7}, {Val: 8, Ok: true, From: 9, To: 10}}; !slices.Equal(d.Answers[1], want) || len(d.Answers[0]) != 0 {
		t.Errorf("answers %v", d.Answers)
	}
	for _, picks := range [][]int{nil, {}, {5, 5}, {0}} {
		d = wantRun(t, []int{7}, scripts, picks)
		if len(d.Answers) != 2 || len(d.Answers[1]) != 0 || d.Cells[0] != 7 || len(d.Steps) != len(picks) {
			t.Errorf("Run(.., %v) = %v", picks, d)
		}
	}
}

func TestRunAtTheLimits(t *testing.T) { // P8.1
	scripts := make([][]count.Op, api.MaxThreads)
	cells := make([]int, api.MaxCells)
	for i := range scripts {
		scripts[i] = ops(count.Op{Kind: count.Locked, At: i, A: (i + 1) % 64}, count.Op{Kind: count.Plus, At: 63 - i, A: i}, count.Op{Kind: count.Sum})
	}
	picks, _ := baton.Robin(64, 80)
	wantRun(t, cells, scripts, picks)
	many := threads(times(api.MaxOps, count.Op{Kind: count.Ticket}), times(api.MaxOps, inc))
	picks, _ = baton.Robin(2, 6000)
	d := wantRun(t, []int{0}, many, picks)
	if d.Cells[0] != 2*api.MaxOps {
		t.Errorf("cells %v", d.Cells)
	}
	picks = slices.Repeat([]int{2}, api.MaxPicks)
	picks[api.MaxPicks-1], picks[500] = 0, 0
	d = wantRun(t, []int{4}, many, picks)
	if d.Answers[0][0] != (count.Ans{Val: 5, Ok: true, From: 500, To: api.MaxPicks - 1}) {
		t.Errorf("the answer in the last pick of all: %v", d.Answers[0][0])
	}
}

// refusals: cells and scripts, and the error of Check, Run and Held; what is wrong earlier counts.
func refusals() map[string]struct {
	cells   []int
	scripts [][]count.Op
	e       api.Errno
} {
	type refused = struct {
		cells   []int
		scripts [][]count.Op
		e       api.Errno
	}
	bad, lost := count.Op{Kind: 8}, count.Op{Kind: count.Inc, At: 99}
	many, long := make([]int, api.MaxCells+1), times(api.MaxOps+1, inc)
	crowd := func(n int, script []count.Op) [][]count.Op { return slices.Repeat([][]count.Op{script}, n) }
	list := map[string]refused{
		"no scripts":                       {[]int{0}, threads(), api.ErrArg},
		"no scripts, too many cells":       {many, nil, api.ErrArg},
		"65 scripts":                       {[]int{0}, crowd(65, ops(inc)), api.ErrArg},
		"65 scripts, too many cells":       {many, crowd(65, long), api.ErrArg},
		"too many cells":                   {many, threads(ops(inc)), api.ErrBig},
		"too many cells, a bad operation":  {many, threads(ops(bad)), api.ErrBig},
		"a long script":                    {[]int{0}, threads(long), api.ErrBig},
		"a long script behind a bad one":   {[]int{0}, threads(ops(bad), ops(lost), long), api.ErrBig},
		"the bad one first":                {[]int{0}, threads(ops(bad, lost)), api.ErrKind},
		"the lost one first":               {[]int{0}, threads(ops(lost, bad)), api.ErrArg},
		"the lost one in an earlier one":   {[]int{0}, threads(ops(inc, lost), ops(bad)), api.ErrArg},
		"the bad one in an earlier one":    {[]int{0}, threads(ops(inc, inc, bad), ops(lost)), api.ErrKind},
		"bad and lost":                     {[]int{0}, threads(ops(count.Op{Kind: 8, At: 99})), api.ErrKind},
		"no cells":                         {nil, threads(ops(inc)), api.ErrArg},
		"a lock that counts itself":        {[]int{0, 0}, threads(ops(count.Op{Kind: count.Locked, At: 1, A: 1})), api.ErrArg},
		"a lock that counts no cell":       {[]int{0, 0}, threads(ops(count.Op{Kind: count.Locked, At: 1, A: 2})), api.ErrArg},
		"a lock that counts below":         {[]int{0, 0}, threads(ops(count.Op{Kind: count.Locked, At: 1, A: -1})), api.ErrArg},
		"a lock that is no cell":           {[]int{0, 0}, threads(ops(count.Op{Kind: count.Locked, At: 2, A: 1})), api.ErrArg},
		"64 cells and scripts, 1000 times": {make([]int, 64), crowd(64, times(api.MaxOps, count.Op{Kind: count.Ticket, At: 63})), api.OK},
		"a Sum of any At":                  {nil, threads(ops(count.Op{Kind: count.Sum, At: -9, A: 9})), api.OK},
		"no operations":                    {nil, threads(nil, ops()), api.OK},
		"any A":                            {[]int{0}, threads(ops(count.Op{Kind: count.Inc, A: 99}, count.Op{Kind: count.Take, A: -99}, count.Op{Kind: count.Ticket, A: 98}, count.Op{Kind: count.Top, A: -98})), api.OK},
	}
	for name, kind := range map[string]int{"kind 0": 0, "kind 8": 8, "kind -1": -1, "the least kind": math.MinInt, "the greatest kind": math.MaxInt} {
		list[name] = refused{[]int{0}, threads(ops(count.Op{Kind: kind})), api.ErrKind}
	}
	for kind := count.Inc; kind <= count.Locked; kind++ {
		if kind == count.Sum {
			continue
		}
		for name, at := range map[string]int{" at -1": -1, " at the end": 2, " at the least": math.MinInt, " at the greatest": math.MaxInt} {
			list[string(rune('0'+kind))+name] = refused{[]int{0, 0}, threads(ops(count.Op{Kind: kind, At: at})), api.ErrArg}
		}
	}
	return list
}

func isZero(d count.Done) bool { return d.Answers == nil && d.Cells == nil && d.Steps == nil }

func TestScriptsThatAreRefused(t *testing.T) { // P8.1, P8.2
	tooMany := make([]int, api.MaxPicks+1)
	for name, c := range refusals() {
		if e := count.Check(c.cells, c.scripts); e != c.e {
			t.Errorf("%s: Check = %d, want %d", name, e, c.e)
		}
		d, e := count.Run(c.cells, c.scripts, nil)
		if e != c.e || e != api.OK && !isZero(d) {
			t.Errorf("%s: Run = %v, %d, want %d", name, d, e, c.e)
		}
		if c.e != api.OK { // at counts behind all others
			if who, e := count.Held(c.cells, c.scripts, nil, -1); who != 0 || e != c.e {
				t.Errorf("%s: Held = %d, %d, want %d", name, who, e, c.e)
			}
		}
		want := api.ErrBig // of the picks: behind a wrong number of scripts, ahead of the operations
		if len(c.scripts) == 0 || len(c.scripts) > api.MaxThreads {
			want = api.ErrArg
		}
		if d, e := count.Run(c.cells, c.scripts, tooMany); e != want || !isZero(d) {
			t.Errorf("%s, with too many picks: Run = %d, want %d", name, e, want)
		}
		if who, e := count.Held(c.cells, c.scripts, tooMany, -1); e != want || who != 0 {
			t.Errorf("%s, with too many picks: Held = %d, %d, want %d", name, who, e, want)
		}
	}
}

func TestHeldByExample(t *testing.T) { // P8.2
	locked := ops(count.Op{Kind: count.Locked, A: 1})
	for at, want := range []int{0, -1} {
		if who, e := count.Held([]int{0, 0}, threads(locked, locked), []int{0, 1, 0, 1, 0, 1}, at); who != want || e != api.OK {
			t.Errorf("Held(.., %d) = %d, %d", at, who, e)
		}
	}
}

// TestHeldThroughALock: from the Cas up to the last Store, and no longer.
func TestHeldThroughALock(t *testing.T) { // P8.2
	scripts := threads(nil, ops(count.Op{Kind: count.Locked, At: 1, A: 0}), ops(inc))
	picks := []int{1, 1, 1, 1, 1}
	for n, want := range []int{-1, -1, 1, 1, 1, -1} {
		if who, e := count.Held([]int{0, 0}, scripts, picks[:n], 1); who != want || e != api.OK {
			t.Errorf("Held behind %d picks = %d, %d, want %d", n, who, e, want)
		}
	}
	if who, e := count.Held([]int{0, 3}, scripts, picks, 1); who != -1 || e != api.OK {
		t.Errorf("Held of a lock that was held at first = %d, %d", who, e)
	}
}

// TestHeldByTwo: a lock that another operation opens; the least number counts.
func TestHeldByTwo(t *testing.T) { // P8.2
	locked := ops(count.Op{Kind: count.Locked, A: 1})
	scripts := threads(ops(count.Op{Kind: count.Plus, A: -1}), locked, locked)
	for _, c := range []struct {
		picks []int
		want  int
	}{
		{[]int{2, 2}, 2}, {[]int{2, 2, 0, 0}, 2}, {[]int{2, 2, 0, 0, 1, 1}, 1}, {[]int{2, 2, 0, 0, 1, 1, 1, 1, 1}, 2}, {[]int{2, 2, 0, 0, 1, 1, 2, 2, 2}, 1},
	} {
		if who, e := count.Held([]int{0, 0}, scripts, c.picks, 0); who != c.want || e != api.OK {
			t.Errorf("Held(.., %v, 0) = %d, %d, want %d", c.picks, who, e, c.want)
		}
	}
}

func TestHeldOfNoCell(t *testing.T) { // P8.2
	for _, at := range []int{math.MinInt, -1, 2, math.MaxInt} {
		if who, e := count.Held([]int{0, 0}, threads(ops(inc)), nil, at); who != 0 || e != api.ErrArg {
			t.Errorf("Held(.., %d) = %d, %d", at, who, e)
		}
	}
	if _, e := count.Held(nil, threads(nil), nil, 0); e != api.ErrArg {
		t.Errorf("Held of no cells: %d", e)
	}
}
