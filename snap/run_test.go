package snap_test

import (
	"math"
	"math/rand"
	"slices"
	"testing"

	"larch/api"
	"larch/baton"
	"larch/snap"
)

func TestRunByExamples(t *testing.T) { // P11.1
	turns := threads(ops(turn(0, 7, 8)), ops(turn(0, 7, 9)))
	for name, c := range map[string]struct {
		regs    []int
		scripts [][]snap.Op
		picks   []int
		want    [][]snap.Ans
		then    []int
	}{
		"1: an equal number": {
			[]int{1, 2}, threads(ops(look), ops(write(0, 1))), []int{0, 0, 0, 1, 1, 0, 0, 0, 0},
			[][]snap.Ans{{{Val: 3, Ok: true, All: []int{1, 2}, From: 0, To: 8}}, {{Ok: true, From: 3, To: 4}}}, []int{1, 2},
		},
		"2: two collects": {
			[]int{1, 2}, threads(ops(look), ops(write(0, 1))), []int{0, 0, 0, 0, 0},
			[][]snap.Ans{{{Val: 2, Ok: true, All: []int{1, 2}, To: 4}}, nil}, []int{1, 2},
		},
		"3: a Cas that fails": {
			[]int{7}, turns, []int{0, 1, 0, 1, 0, 1},
			[][]snap.Ans{{{Val: 7, Ok: true, From: 0, To: 4}}, {{Val: 7, From: 1, To: 5}}}, []int{8},
		},
		"3: it isn't A": {
			[]int{7}, turns, []int{0, 0, 0, 1, 1},
			[][]snap.Ans{{{Val: 7, Ok: true, From: 0, To: 2}}, {{Val: 8, From: 3, To: 4}}}, []int{8},
		},
		"4: no registers": {nil, threads(ops(look)), []int{0}, [][]snap.Ans{{{Val: 2, Ok: true}}}, nil},
		"4: a trade":      {[]int{5}, threads(ops(trade(0, 6))), []int{0, 0}, [][]snap.Ans{{{Val: 5, Ok: true, To: 1}}}, []int{6}},
	} {
		d, e := snap.Run(c.regs, c.scripts, c.picks)
		same := slices.EqualFunc(d.Answers, c.want, func(x, y []snap.Ans) bool { return slices.EqualFunc(x, y, sameAns) })
		if e != api.OK || !same || !slices.Equal(d.Regs, c.then) || len(d.Steps) != len(c.picks) {
			t.Errorf("%s: %v, %d", name, d, e)
		}
		wantRun(t, c.regs, c.scripts, c.picks)
	}
}

// TestStepsOfAllKinds: the accesses of each operation, by the chapter's table.
func TestStepsOfAllKinds(t *testing.T) { // P11.1
	for _, c := range []struct {
		op    snap.Op
		kinds []int
		want  snap.Ans
		then  []int
	}{
		{write(1, 9), []int{api.Store}, snap.Ans{Ok: true}, []int{4, 9}},
		{read(1), []int{api.Load}, snap.Ans{Val: 5, Ok: true}, []int{4, 5}},
		{trade(1, 9), []int{api.Swap}, snap.Ans{Val: 5, Ok: true}, []int{4, 9}},
		{turn(1, 5, 9), []int{api.Load, api.Cas}, snap.Ans{Val: 5, Ok: true}, []int{4, 9}},
		{turn(1, 5, 5), []int{api.Load, api.Cas}, snap.Ans{Val: 5, Ok: true}, []int{4, 5}},
		{turn(1, 4, 9), []int{api.Load}, snap.Ans{Val: 5}, []int{4, 5}},
		{look, []int{api.Load, api.Load, api.Load, api.Load}, snap.Ans{Val: 2, Ok: true, All: []int{4, 5}}, []int{4, 5}},
		{snap.Op{Kind: snap.Snap, At: -7, A: 1, B: 2}, []int{api.Load, api.Load, api.Load, api.Load}, snap.Ans{Val: 2, Ok: true, All: []int{4, 5}}, []int{4, 5}},
	} {
		steps := []api.Step{{Kind: api.Start}}
		for _, kind := range c.kinds {
			steps = append(steps, api.Step{Kind: kind})
		}
		steps[len(steps)-1].Ended = true
		c.want.To = len(c.kinds)
		d := wantRun(t, []int{4, 5}, threads(ops(c.op)), make([]int, len(steps)))
		if !slices.Equal(d.Steps, steps) || !sameAns(d.Answers[0][0], c.want) || !slices.Equal(d.Regs, c.then) {
			t.Errorf("%v: %v", c.op, d)
		}
	}
}

// TestEqualNumbersAreChanges: whoever puts an equal number into a register is seen by a Snap and by a Turn.
func TestEqualNumbersAreChanges(t *testing.T) { // P11.1
	for _, change := range []snap.Op{write(0, 7), trade(0, 7), turn(0, 7, 7)} {
		meddle := ops(change)
		d := wantRun(t, []int{7}, threads(ops(turn(0, 7, 8)), meddle), []int{0, 0, 1, 1, 1, 0})
		if d.Regs[0] != 7 || d.Answers[0][0].Ok || d.Answers[0][0].Val != 7 {
			t.Errorf("a Turn that %v meddles with: %v", change, d)
		}
		d = wantRun(t, []int{7, 3}, threads(ops(look), meddle), []int{0, 0, 0, 1, 1, 1, 0, 0, 0, 0})
		if a := d.Answers[0][0]; a.Val != 3 || !slices.Equal(a.All, []int{7, 3}) || a.To != 9 {
			t.Errorf("a Snap that %v meddles with: %v", change, d)
		}
	}
	for _, harmless := range []snap.Op{read(0), look, turn(0, 6, 9)} { // these change nothing
		d := wantRun(t, []int{7}, threads(ops(look), ops(harmless)), []int{0, 0, 1, 1, 1, 0})
		if a := d.Answers[0][0]; a.Val != 2 || a.To != 5 {
			t.Errorf("a Snap beside %v: %v", harmless, d)
		}
	}
}

// TestRunUnderAllPicks: small scripts, all lists of picks.
func TestRunUnderAllPicks(t *testing.T) { // P11.1, P11.2
	for _, c := range []struct {
		regs    []int
		scripts [][]snap.Op
	}{
		{[]int{1, 2}, threads(ops(look), ops(write(0, 1), write(1, 3)))},
		{[]int{0}, threads(ops(look, read(0)), ops(trade(0, 0), turn(0, 0, 5)))},
		{[]int{7}, threads(ops(turn(0, 7, 8), turn(0, 8, 7)), ops(turn(0, 7, 7), write(0, 7)))},
		{nil, threads(ops(look), ops(look, look))},
		{[]int{math.MaxInt, math.MinInt}, threads(ops(trade(0, math.MinInt), read(1)), ops(turn(0, math.MinInt, math.MaxInt), look))},
	} {
		eachList(2, 10, func(picks []int) {
			wantRun(t, c.regs, c.scripts, picks)
			wantMoments(t, c.regs, c.scripts, picks)
		})
	}
}

func TestRunByChance(t *testing.T) { // P11.1, P11.2
	r := rand.New(rand.NewSource(1))
	for range 2000 {
		regs := someRegs(r, r.Intn(4))
		scripts := someScripts(r, 1+r.Intn(5), 6, len(regs))
		picks := somePicks(r, len(scripts), 150)
		wantRun(t, regs, scripts, picks)
		wantMoments(t, regs, scripts, picks)
	}
}

// TestPicksThatDoNothing: of nobody, and of threads that have ended; they count in From and To.
func TestPicksThatDoNothing(t *testing.T) { // P11.1
	scripts := threads(nil, ops(turn(0, 7, 8), look))
	d := wantRun(t, []int{7}, scripts, []int{0, 2, 1, -1, math.MinInt, 1, 0, 1, math.MaxInt, 1, 1, 1, 1, 0})
	want := []snap.Ans{{Val: 7, Ok: true, From: 2, To: 7}, {Val: 2, Ok: true, All: []int{8}, From: 9, To: 11}}
	if !slices.EqualFunc(d.Answers[1], want, sameAns) || len(d.Answers[0]) != 0 {
		t.Errorf("answers %v", d.Answers)
	}
	for _, picks := range [][]int{nil, {}, {5, 5}, {0}} {
		d = wantRun(t, []int{7}, scripts, picks)
		if len(d.Answers) != 2 || len(d.Answers[1]) != 0 || d.Regs[0] != 7 || len(d.Steps) != len(picks) {
			t.Errorf("Run(.., %v) = %v", picks, d)
		}
	}
}

// TestOperationsThatArePending: what they don't say is zero, however far they came.
func TestOperationsThatArePending(t *testing.T) { // P11.1
	for _, op := range []snap.Op{write(0, 9), read(1), trade(0, 9), turn(0, 4, 9), turn(0, 5, 9), look} {
		whole := wantRun(t, []int{4, 5}, threads(ops(op)), make([]int, 9)).Answers[0][0]
		for n := 1; n <= whole.To; n++ {
			d := wantRun(t, []int{4, 5}, threads(ops(op)), make([]int, n))
			if len(d.Answers[0]) != 1 || !sameAns(d.Answers[0][0], snap.Ans{To: -1}) || d.Answers[0][0].All != nil || !slices.Equal(d.Regs, []int{4, 5}) {
				t.Errorf("%v behind %d picks: %v", op, n, d)
			}
		}
	}
}

func TestRunAtTheLimits(t *testing.T) { // P11.1
	scripts := make([][]snap.Op, api.MaxThreads)
	regs := make([]int, api.MaxCells)
	for i := range scripts {
		scripts[i] = ops(write(i, i), look, turn(63-i, 63-i, i), look)
	}
	picks, _ := baton.Robin(64, 400)
	wantRun(t, regs, scripts, picks)
	many := threads(times(api.MaxOps, trade(0, 3)), times(api.MaxOps, look))
	picks, _ = baton.Robin(2, 6000)
	d := wantRun(t, []int{0}, many, picks)
	if len(d.Answers[0]) != api.MaxOps || len(d.Answers[1]) != api.MaxOps {
		t.Errorf("%d and %d answers", len(d.Answers[0]), len(d.Answers[1]))
	}
	picks = slices.Repeat([]int{2}, api.MaxPicks)
	picks[api.MaxPicks-1], picks[500] = 0, 0
	d, e := snap.Run([]int{4}, many, picks)
	if e != api.OK || !sameAns(d.Answers[0][0], snap.Ans{Val: 4, Ok: true, From: 500, To: api.MaxPicks - 1}) {
		t.Errorf("the answer in the last pick of all: %v, %d", d.Answers[0][0], e)
	}
}

// refused is what isn't taken, and the error of Check, Run and Moments.
type refused struct {
	regs    []int
	scripts [][]snap.Op
	e       api.Errno
}

// refusals: what is wrong earlier counts.
func refusals() map[string]refused {
	bad, lost, fine := snap.Op{Kind: 6}, read(99), read(0)
	many, long := make([]int, api.MaxCells+1), times(api.MaxOps+1, fine)
	crowd := func(n int, script []snap.Op) [][]snap.Op { return slices.Repeat([][]snap.Op{script}, n) }
	list := map[string]refused{
		"no scripts":                           {[]int{0}, threads(), api.ErrArg},
		"no scripts, too many registers":       {many, nil, api.ErrArg},
		"65 scripts":                           {[]int{0}, crowd(65, ops(fine)), api.ErrArg},
		"65 scripts, too many registers":       {many, crowd(65, long), api.ErrArg},
		"too many registers":                   {many, threads(ops(fine)), api.ErrBig},
		"too many registers, a bad operation":  {many, threads(ops(bad)), api.ErrBig},
		"a long script":                        {[]int{0}, threads(long), api.ErrBig},
		"a long script behind a bad one":       {[]int{0}, threads(ops(bad), ops(lost), long), api.ErrBig},
		"the bad one first":                    {[]int{0}, threads(ops(bad, lost)), api.ErrKind},
		"the lost one first":                   {[]int{0}, threads(ops(lost, bad)), api.ErrArg},
		"the lost one in an earlier script":    {[]int{0}, threads(ops(fine, lost), ops(bad)), api.ErrArg},
		"the bad one in an earlier script":     {[]int{0}, threads(ops(fine, fine, bad), ops(lost)), api.ErrKind},
		"bad and lost":                         {[]int{0}, threads(ops(snap.Op{Kind: 6, At: 99})), api.ErrKind},
		"no registers":                         {nil, threads(ops(fine)), api.ErrArg},
		"64 registers and scripts, 1000 times": {make([]int, 64), crowd(64, times(api.MaxOps, read(63))), api.OK},
		"a Snap of any At":                     {nil, threads(ops(snap.Op{Kind: snap.Snap, At: -9, A: 9}, snap.Op{Kind: snap.Snap, At: math.MaxInt})), api.OK},
		"no operations":                        {nil, threads(nil, ops()), api.OK},
		"any A and B":                          {[]int{0}, threads(ops(write(0, math.MinInt), trade(0, math.MaxInt), turn(0, 77, -77), snap.Op{Kind: snap.Read, A: 99, B: 98})), api.OK},
	}
	for name, kind := range map[string]int{"kind 0": 0, "kind 6": 6, "kind -1": -1, "the least kind": math.MinInt, "the greatest kind": math.MaxInt} {
		list[name] = refused{[]int{0}, threads(ops(snap.Op{Kind: kind})), api.ErrKind}
	}
	for kind := snap.Write; kind <= snap.Turn; kind++ {
		for name, at := range map[string]int{" at -1": -1, " at the end": 2, " at the least": math.MinInt, " at the greatest": math.MaxInt} {
			list[string(rune('0'+kind))+name] = refused{[]int{0, 0}, threads(ops(snap.Op{Kind: kind, At: at})), api.ErrArg}
		}
	}
	return list
}

func isZero(d snap.Done) bool { return d.Answers == nil && d.Regs == nil && d.Steps == nil }

func TestScriptsThatAreRefused(t *testing.T) { // P11.1, P11.2
	for name, c := range refusals() {
		if e := snap.Check(c.regs, c.scripts); e != c.e {
			t.Errorf("%s: Check = %d, want %d", name, e, c.e)
		}
		if d, e := snap.Run(c.regs, c.scripts, nil); e != c.e || e != api.OK && !isZero(d) {
			t.Errorf("%s: Run = %v, %d, want %d", name, d, e, c.e)
		}
		if m, e := snap.Moments(c.regs, c.scripts, nil); e != c.e || e != api.OK && m != nil {
			t.Errorf("%s: Moments = %v, %d, want %d", name, m, e, c.e)
		}
		want := api.ErrBig // of the picks: behind a wrong number of scripts, ahead of the operations
		if len(c.scripts) == 0 || len(c.scripts) > api.MaxThreads {
			want = api.ErrArg
		}
		if d, e := snap.Run(c.regs, c.scripts, make([]int, api.MaxPicks+1)); e != want || !isZero(d) {
			t.Errorf("%s, with too many picks: Run = %d, want %d", name, e, want)
		}
		if m, e := snap.Moments(c.regs, c.scripts, make([]int, 10001)); e != want || m != nil {
			t.Errorf("%s, with too many picks: Moments = %d, want %d", name, e, want)
		}
	}
}
