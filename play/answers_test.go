package play_test

import (
	"math"
	"math/rand"
	"slices"
	"testing"

	"larch/api"
	"larch/event"
	"larch/play"
)

func invoked(thread int, o api.Op) api.Event { return api.Event{Thread: thread, Op: o} }

func answered(thread int, o api.Op, ret api.Ret) api.Event {
	return api.Event{Thread: thread, Return: true, Op: o, Ret: ret}
}

func sameAnswers(a, b [][]api.Ret) bool { return slices.EqualFunc(a, b, sameRets) }

func TestAnswersByExample(t *testing.T) { // P25.1
	h := []api.Event{invoked(0, get(1)), invoked(2, least()), answered(2, least(), api.Ret{}), answered(0, get(1), api.Ret{Ok: true, Val: 5})}
	if a, e := play.Answers(h, 3); e != api.OK || !sameAnswers(a, [][]api.Ret{{{Ok: true, Val: 5}}, nil, {{}}}) {
		t.Errorf("example 5: %v, %d", a, e)
	}
	if a, e := play.Answers(h, 2); e != api.ErrForm || len(a) != 0 {
		t.Errorf("example 5, two threads: %v, %d", a, e)
	}
}

func TestAnswersOfPlays(t *testing.T) { // P25.1
	r := rand.New(rand.NewSource(10))
	for range 200 {
		g := someGame(r, 5, 5, r.Intn(600))
		h := wantRun(t, g).History
		for _, more := range []int{0, 1, api.MaxThreads - len(g.Scripts)} {
			want := make([][]api.Ret, len(g.Scripts)+more)
			for _, e := range h {
				if e.Return {
					want[e.Thread] = append(want[e.Thread], e.Ret)
				}
			}
			if a, e := play.Answers(h, len(want)); e != api.OK || !sameAnswers(a, want) {
				t.Fatalf("Answers(%v, %d) = %v, %d, want %v", h, len(want), a, e, want)
			}
		}
	}
}

func TestAnswersAtTheEdges(t *testing.T) { // P25.1
	whole := answered(63, everything(), api.Ret{Ok: true, Pairs: pairsOf(1, 2, 3, 4)})
	last := []api.Event{invoked(63, everything()), whole}
	open := []api.Event{invoked(1, put(1, 1))}
	odd := answered(0, get(1), api.Ret{Ok: false, Key: 7, Val: 8, Pairs: pairsOf(9, 9)}) // a return may answer anything
	for i, c := range []struct {
		h       []api.Event
		threads int
		want    [][]api.Ret
		e       api.Errno
	}{
		{nil, 0, nil, api.OK},
		{nil, 2, make([][]api.Ret, 2), api.OK},
		{nil, 64, make([][]api.Ret, 64), api.OK},
		{nil, 65, nil, api.ErrArg}, {nil, -1, nil, api.ErrArg}, {nil, math.MaxInt, nil, api.ErrArg}, {nil, math.MinInt, nil, api.ErrArg},
		{last, 64, append(make([][]api.Ret, 63), []api.Ret{whole.Ret}), api.OK},
		{last, 63, nil, api.ErrForm}, {last, 0, nil, api.ErrForm}, {last, 65, nil, api.ErrArg},
		{open, 2, make([][]api.Ret, 2), api.OK},
		{open, 1, nil, api.ErrForm}, {open, 0, nil, api.ErrForm},
		{[]api.Event{invoked(0, get(1)), odd}, 1, [][]api.Ret{{odd.Ret}}, api.OK},
		{[]api.Event{odd}, 1, nil, api.ErrForm}, {[]api.Event{odd}, 65, nil, api.ErrArg},
		{[]api.Event{invoked(0, get(1)), invoked(0, get(1))}, 1, nil, api.ErrForm},
		{[]api.Event{invoked(0, get(1)), answered(0, get(2), api.Ret{})}, 1, nil, api.ErrForm},
		{[]api.Event{invoked(64, get(1))}, 64, nil, api.ErrForm}, {[]api.Event{invoked(-1, get(1))}, 1, nil, api.ErrForm},
		{[]api.Event{invoked(0, api.Op{Kind: 10})}, 1, nil, api.ErrForm},
		{slices.Repeat([]api.Event{invoked(0, least()), answered(0, least(), api.Ret{})}, event.MaxEvents/2), 1, [][]api.Ret{make([]api.Ret, event.MaxEvents/2)}, api.OK},
		{slices.Repeat([]api.Event{invoked(0, least()), answered(0, least(), api.Ret{})}, event.MaxEvents/2+1), 1, nil, api.ErrForm},
	} {
		if a, e := play.Answers(c.h, c.threads); e != c.e || !sameAnswers(a, c.want) {
			t.Errorf("row %d: Answers(.., %d) = %v, %d, want %d", i, c.threads, a, e, c.e)
		}
	}
}
