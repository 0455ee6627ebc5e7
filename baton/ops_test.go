package baton_test

import (
	"math/rand"
	"slices"
	"testing"

	"larch/api"
	"larch/baton"
	"larch/cell"
)

func invoked(thread int, op api.Op) api.Event { return api.Event{Thread: thread, Op: op} }
func returned(thread int, op api.Op, ret api.Ret) api.Event {
	return api.Event{Thread: thread, Return: true, Op: op, Ret: ret}
}

func wantHistory(t *testing.T, what string, got, want []api.Event) {
	t.Helper()
	if !sameHistory(got, want) {
		t.Errorf("%s: history %v, want %v", what, got, want)
	}
}

func TestEchoByExamples(t *testing.T) { // P4.2
	twice := api.Op{Kind: 2, Val: 5}
	told, history, e := baton.Echo([][]api.Op{{twice}}, []int{0, 0, 0})
	wantOK(t, "Echo", e)
	wantTold(t, "Echo", told, baton.Told{Steps: []api.Step{did(0, api.Start), did(0, api.Add), last(0, api.Add)}, Ended: []bool{true}, Panics: []bool{false}})
	wantHistory(t, "Echo", history, []api.Event{invoked(0, twice), returned(0, twice, api.Ret{Ok: true, Val: 10})})

	broken := api.Op{Kind: 9, Val: 1}
	told, history, e = baton.Echo([][]api.Op{{broken}}, []int{0, 0})
	wantOK(t, "Echo of a panic", e)
	wantTold(t, "Echo of a panic", told, baton.Told{Steps: []api.Step{did(0, api.Start), last(0, api.Add)}, Ended: []bool{true}, Panics: []bool{true}})
	wantHistory(t, "Echo of a panic", history, []api.Event{invoked(0, broken)})
}

func TestEchoIsTheMachine(t *testing.T) { // P4.2
	r := rand.New(rand.NewSource(3))
	for range 1000 {
		scripts := make([][]api.Op, 1+r.Intn(4))
		for w := range scripts {
			for range r.Intn(5) {
				scripts[w] = append(scripts[w], api.Op{Kind: 1 + r.Intn(9), Key: r.Intn(3), Val: r.Intn(9) - 4, Hi: r.Intn(2)})
			}
		}
		picks := somePicks(r, len(scripts), 60)
		want, wantEvents := echoByMachine(scripts, picks)
		got, history, e := baton.Echo(scripts, picks)
		wantOK(t, "Echo", e)
		wantTold(t, "Echo", got, want)
		wantHistory(t, "Echo", history, wantEvents)
	}
}

func TestEchoOfAllKindsAndPicks(t *testing.T) { // P4.2
	for kind := 1; kind <= 9; kind++ {
		scripts := [][]api.Op{{{Kind: kind, Val: 3}, {Kind: 1, Val: 7}}, {}, {{Kind: 2, Val: -1}}}
		for _, picks := range allPicks(3, 5) {
			want, wantEvents := echoByMachine(scripts, picks)
			got, history, e := baton.Echo(scripts, picks)
			if e != api.OK || !sameTold(got, want) || !sameHistory(history, wantEvents) {
				t.Fatalf("Echo(%v, %v) = %v, %v, %d, want %v, %v", scripts, picks, got, history, e, want, wantEvents)
			}
		}
	}
}

// atOnce: an operation without an access.
func atOnce(_ int, _ cell.Gate, op api.Op) api.Ret { return api.Ret{Val: op.Val + 1} }

func TestOpsByExamples(t *testing.T) { // P4.2
	op := api.Op{Kind: 1}
	told, history, e := baton.Ops([][]api.Op{{op}}, []int{0}, atOnce)
	wantOK(t, "Ops", e)
	wantTold(t, "Ops", told, baton.Told{Steps: []api.Step{last(0, api.Start)}, Ended: []bool{true}, Panics: []bool{false}})
	wantHistory(t, "Ops", history, []api.Event{invoked(0, op), returned(0, op, api.Ret{Val: 1})})

	told, history, e = baton.Ops([][]api.Op{{op}}, nil, atOnce)
	wantOK(t, "Ops without picks", e)
	wantTold(t, "Ops without picks", told, baton.Told{Ended: []bool{false}, Panics: []bool{false}})
	wantHistory(t, "Ops without picks", history, nil)
}

func TestOpsHandsOnWorkerAndOperation(t *testing.T) { // P4.2
	scripts := [][]api.Op{{{Kind: -5, Key: 1}, {Kind: 77, Val: 2}}, nil, {{Hi: 3}}} // do alone says what a kind is
	type call struct {
		worker int
		op     api.Op
	}
	var calls []call
	n := cell.NewNum(40)
	told, history, e := baton.Ops(scripts, []int{2, 0, 2, 0, 0, 0}, func(worker int, g cell.Gate, op api.Op) api.Ret {
		calls = append(calls, call{worker, op})
		return api.Ret{Ok: true, Key: worker, Val: n.Add(g, 1)}
	})
	wantOK(t, "Ops", e)
	wantTold(t, "Ops", told, baton.Told{
		Steps:  []api.Step{did(2, api.Start), did(0, api.Start), last(2, api.Add), did(0, api.Add), did(0, api.Start), last(0, api.Add)},
		Ended:  []bool{true, true, true},
		Panics: []bool{false, false, false},
	})
	wantHistory(t, "Ops", history, []api.Event{
		invoked(2, scripts[2][0]), invoked(0, scripts[0][0]),
		returned(2, scripts[2][0], api.Ret{Ok: true, Key: 2, Val: 41}),
		returned(0, scripts[0][0], api.Ret{Ok: true, Val: 42}),
		invoked(0, scripts[0][1]),
		returned(0, scripts[0][1], api.Ret{Ok: true, Val: 43}),
	})
	if want := []call{{2, scripts[2][0]}, {0, scripts[0][0]}, {0, scripts[0][1]}}; !slices.Equal(calls, want) {
		t.Errorf("do was called with %v, want %v", calls, want)
	}
}

func TestOpsEndedOrBroken(t *testing.T) { // P4.2
	op := api.Op{Kind: 1}
	n := cell.NewNum(0)
	told, history, e := baton.Ops([][]api.Op{{op, op}, {op, op}}, []int{0, 1, 1}, func(worker int, g cell.Gate, _ api.Op) api.Ret {
		n.Add(g, 1)
		if worker == 1 {
			panic("a body's own")
		}
		return api.Ret{}
	})
	wantOK(t, "Ops", e)
	wantTold(t, "Ops", told, baton.Told{
		Steps:  []api.Step{did(0, api.Start), did(1, api.Start), last(1, api.Add)},
		Ended:  []bool{false, true},
		Panics: []bool{false, true},
	})
	wantHistory(t, "Ops", history, []api.Event{invoked(0, op), invoked(1, op)})
	if n.Load(nil) != 1 {
		t.Errorf("%d accesses were done, want 1", n.Load(nil))
	}
}

func TestOpsCopiesPairs(t *testing.T) { // P4.2, P4.6
	buffer := make([]api.Pair, 2, 8)
	_, history, _ := baton.Ops([][]api.Op{{{Key: 1}, {Key: 2}}}, []int{0, 0}, func(_ int, _ cell.Gate, op api.Op) api.Ret {
		buffer[0], buffer[1] = api.Pair{Key: op.Key}, api.Pair{Val: op.Key}
		return api.Ret{Pairs: buffer}
	})
	clear(buffer)
	for i, key := range []int{1, 2} {
		if got := history[2*i+1].Ret.Pairs; !slices.Equal(got, []api.Pair{{Key: key}, {Val: key}}) {
			t.Errorf("return %d has the pairs %v", i, got)
		}
	}
}

func TestOpsRefused(t *testing.T) { // P4.2
	long, many := make([]api.Op, 1001), make([]int, 1000001)
	fine := [][]api.Op{{{Kind: 1}}}
	for _, c := range []struct {
		name    string
		scripts [][]api.Op
		picks   []int
		want    api.Errno
	}{
		{"no worker", nil, nil, api.ErrArg},
		{"an empty list of workers", [][]api.Op{}, nil, api.ErrArg},
		{"65 workers", make([][]api.Op, 65), nil, api.ErrArg},
		{"too many picks", fine, many, api.ErrBig},
		{"a script of 1001", [][]api.Op{nil, long}, nil, api.ErrBig},
		{"the number of workers counts first", slices.Repeat([][]api.Op{long}, 65), many, api.ErrArg},
	} {
		told, history, e := baton.Ops(c.scripts, c.picks, func(int, cell.Gate, api.Op) api.Ret {
			t.Errorf("%s: a worker has run", c.name)
			return api.Ret{}
		})
		if e != c.want || len(history) != 0 || !sameTold(told, baton.Told{}) {
			t.Errorf("%s: Ops = %v, %v, error %d, want %d", c.name, told, history, e, c.want)
		}
		told, history, e = baton.Ops(c.scripts, c.picks, nil)
		if e != api.ErrNil || len(history) != 0 || !sameTold(told, baton.Told{}) {
			t.Errorf("%s, and no do: Ops = %v, %v, error %d", c.name, told, history, e)
		}
		told, history, e = baton.Echo(c.scripts, c.picks)
		if e != c.want || len(history) != 0 || !sameTold(told, baton.Told{}) {
			t.Errorf("%s: Echo = %v, %v, error %d, want %d", c.name, told, history, e, c.want)
		}
	}
	if _, _, e := baton.Ops(fine, nil, nil); e != api.ErrNil {
		t.Errorf("Ops without do: error %d", e)
	}
}

func TestEchoRefusesKinds(t *testing.T) { // P4.2
	for _, kind := range []int{0, 10, -1, -1 << 63, 1<<63 - 1} {
		told, history, e := baton.Echo([][]api.Op{nil, {{Kind: 1}, {Kind: kind}}}, []int{1, 1, 1, 1})
		if e != api.ErrKind || len(history) != 0 || !sameTold(told, baton.Told{}) {
			t.Errorf("Echo of kind %d = %v, %v, error %d", kind, told, history, e)
		}
		if _, _, e := baton.Echo([][]api.Op{{{Kind: kind}}}, make([]int, 1000001)); e != api.ErrBig {
			t.Errorf("Echo of kind %d and too many picks: error %d", kind, e)
		}
		if _, _, e := baton.Echo(slices.Repeat([][]api.Op{{{Kind: kind}}}, 65), nil); e != api.ErrArg {
			t.Errorf("Echo of kind %d and 65 workers: error %d", kind, e)
		}
	}
}

func TestOpsAtTheLimits(t *testing.T) { // P4.2
	scripts := slices.Repeat([][]api.Op{slices.Repeat([]api.Op{{Kind: 1, Val: 1}}, 1000)}, 64)
	picks, _ := baton.Robin(64, 1000)
	told, history, e := baton.Ops(scripts, picks, atOnce)
	if e != api.OK || slices.Contains(told.Ended, false) || len(history) != 128000 {
		t.Errorf("Ops as big as it may be: %d events, error %d", len(history), e)
	}
	if _, history, e := baton.Echo(scripts, slices.Concat(picks, picks)); e != api.OK || len(history) != 128000 {
		t.Errorf("Echo as big as it may be: %d events, error %d", len(history), e)
	}
	if told, _, e := baton.Ops([][]api.Op{nil}, make([]int, 1000000), atOnce); e != api.OK || len(told.Steps) != 1000000 {
		t.Errorf("Ops of 1000000 picks: %d steps, error %d", len(told.Steps), e)
	}
}
