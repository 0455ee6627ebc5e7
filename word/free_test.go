package word_test

import (
	"fmt"
	"math"
	"math/rand"
	"runtime"
	"slices"
	"testing"
	"time"

	"larch/api"
	"larch/word"
)

// manyLists: as many lists as there may be, with as many numbers in all as there may be.
func manyLists(seed int64) [][]uint64 {
	r := rand.New(rand.NewSource(seed))
	lists := make([][]uint64, api.MaxThreads)
	for n := range word.MaxFree {
		lists[n%len(lists)] = append(lists[n%len(lists)], r.Uint64())
	}
	return lists
}

// gathered: what Gather must answer, worked out by one thread.
func gathered(kind, op int, start uint64, lists [][]uint64) uint64 {
	v := held(kind, start)
	for _, n := range slices.Concat(lists...) {
		n = held(kind, n)
		switch op {
		case api.Add:
			v = held(kind, v+n)
		case api.And:
			v &= n
		case api.Or:
			v |= n
		case word.Xor:
			v ^= n
		case word.Max:
			if numberOf(kind, n).Cmp(numberOf(kind, v)) > 0 {
				v = n
			}
		case word.Min:
			if numberOf(kind, n).Cmp(numberOf(kind, v)) < 0 {
				v = n
			}
		}
	}
	return v
}

func opsOf(kind int) []int {
	if kind == word.Bool {
		return []int{word.Xor, word.Max, word.Min}
	}
	return []int{api.Add, api.And, api.Or, word.Xor, word.Max, word.Min}
}

func TestGatherByExamples(t *testing.T) { // P1.3
	cases := []struct {
		kind, op int
		start    uint64
		lists    [][]uint64
		want     uint64
	}{
		{word.U32, api.Add, 1, [][]uint64{{2, 3}, {4294967295}}, 5},
		{word.I32, word.Max, 1<<32 - 5, [][]uint64{{3}, {4294967295}}, 3},
		{word.I32, word.Min, 1<<32 - 5, [][]uint64{{3}, {4294967295}}, 1<<32 - 5},
		{word.U32, word.Max, 0, [][]uint64{{3}, {4294967295}}, 4294967295},
		{word.Bool, word.Xor, 0, [][]uint64{{1, 1}, {1}}, 1},
		{word.Bool, word.Xor, 2, [][]uint64{{4}}, 0},
		{word.I64, api.And, 1<<64 - 1, nil, 1<<64 - 1},
		{word.U32, api.Or, 1<<40 + 6, [][]uint64{}, 6},
		{word.U32, api.Or, 1<<40 + 6, [][]uint64{{}, nil}, 6},
		{word.U32, word.Xor, 6, [][]uint64{{1<<32 + 3}}, 5},
	}
	for _, c := range cases {
		if got, e := word.Gather(c.kind, c.op, c.start, c.lists); got != c.want || e != api.OK {
			t.Errorf("Gather(%d, %d, %d, %v) = %d, %d, want %d", c.kind, c.op, c.start, c.lists, got, e, c.want)
		}
	}
}

func TestGatherOfMany(t *testing.T) { // P1.3
	lists := manyLists(2)
	for _, k := range allKinds {
		for _, op := range opsOf(k.kind) {
			start := uint64(1)<<31 + 77
			if op == api.And {
				start = 1<<64 - 1
			}
			want := gathered(k.kind, op, start, lists)
			if got, e := word.Gather(k.kind, op, start, lists); got != want || e != api.OK {
				t.Errorf("Gather(%d, %d, %d, ..) = %d, %d, want %d", k.kind, op, start, got, e, want)
			}
		}
		for _, op := range opsOf(k.kind) {
			for i := range edgeBits {
				few := [][]uint64{edgeBits[:i], edgeBits[i:]}
				if got, e := word.Gather(k.kind, op, edgeBits[i], few); got != gathered(k.kind, op, edgeBits[i], few) || e != api.OK {
					t.Errorf("Gather(%d, %d, %d, %v) = %d, %d", k.kind, op, edgeBits[i], few, got, e)
				}
			}
		}
	}
}

func TestGatherThatIsRefused(t *testing.T) { // P1.3
	tooManyLists := make([][]uint64, api.MaxThreads+1)
	tooMany := [][]uint64{make([]uint64, word.MaxFree), {1}}
	cases := []struct {
		kind, op int
		lists    [][]uint64
		e        api.Errno
	}{
		{9, 99, tooManyLists, api.ErrKind}, {word.U64, 99, tooManyLists, api.ErrBig}, {word.Bool, api.Add, tooMany, api.ErrBig},
		{word.U64, api.Add, tooMany, api.ErrBig}, {word.Bool, api.Or, nil, api.ErrKind}, {word.Bool, api.And, nil, api.ErrKind}, {word.Bool, api.Add, nil, api.ErrKind},
		{word.I32, 0, nil, api.ErrKind}, {word.I32, api.Load, nil, api.ErrKind}, {word.I32, api.Store, nil, api.ErrKind}, {word.I32, api.Swap, nil, api.ErrKind},
		{word.I32, api.Cas, nil, api.ErrKind}, {word.I32, 11, nil, api.ErrKind}, {word.I32, -1, nil, api.ErrKind},
	}
	for _, c := range cases {
		if got, e := word.Gather(c.kind, c.op, 7, c.lists); got != 0 || e != c.e {
			t.Errorf("Gather(%d, %d, 7, %d lists) = %d, %d, want %d", c.kind, c.op, len(c.lists), got, e, c.e)
		}
	}
}

func TestSwaps(t *testing.T) { // P1.4
	cases := []struct {
		kind  int
		start uint64
		lists [][]uint64
		want  []uint64
	}{
		{word.U32, 9, [][]uint64{{2, 3}, {2}}, []uint64{2, 2, 3, 9}},
		{word.Bool, 1, [][]uint64{{0, 7}}, []uint64{0, 1, 1}},
		{word.I32, 4294967295, [][]uint64{{0}, {1<<32 + 1}}, []uint64{0, 1, 4294967295}}, // by their bits: -1 comes last
		{word.U32, 1<<32 + 4, nil, []uint64{4}},
		{word.U64, 4, [][]uint64{{}, nil}, []uint64{4}},
	}
	for _, c := range cases {
		if got, e := word.Swaps(c.kind, c.start, c.lists); !slices.Equal(got, c.want) || e != api.OK {
			t.Errorf("Swaps(%d, %d, %v) = %v, %d", c.kind, c.start, c.lists, got, e)
		}
	}
	lists := manyLists(3)
	for _, k := range allKinds {
		want := []uint64{held(k.kind, 1<<63+1)}
		for _, n := range slices.Concat(lists...) {
			want = append(want, held(k.kind, n))
		}
		slices.Sort(want)
		if got, e := word.Swaps(k.kind, 1<<63+1, lists); !slices.Equal(got, want) || e != api.OK {
			t.Errorf("Swaps(%d, ..) of many: %d numbers, error %d", k.kind, len(got), e)
		}
	}
}

func TestSwapsThatAreRefused(t *testing.T) { // P1.4
	for _, lists := range [][][]uint64{make([][]uint64, api.MaxThreads+1), {{1}, make([]uint64, word.MaxFree)}} {
		if got, e := word.Swaps(word.Bool, 1, lists); len(got) != 0 || e != api.ErrBig {
			t.Errorf("Swaps of %d lists = %v, %d", len(lists), got, e)
		}
	}
}

func TestTickets(t *testing.T) { // P1.5
	even := make([]int, api.MaxThreads)
	for i := range even {
		even[i] = word.MaxFree / len(even)
	}
	cases := []struct {
		start  uint64
		counts []int
	}{
		{4294967295, []int{2, 1}}, {1<<32 - 3, []int{1, 0, 5}}, {1<<31 - 2, []int{3, 3}}, {1<<63 - 2, []int{3, 3}}, {1<<64 - 2, []int{2, 2}},
		{1<<40 + 9, nil}, {9, []int{0, 0}}, {1<<32 - 7, even}, {1<<64 - 500, []int{word.MaxFree}},
	}
	for _, k := range allKinds {
		if k.kind == word.Bool {
			continue
		}
		for _, c := range cases {
			var want []uint64
			for _, n := range c.counts {
				for range n {
					want = append(want, held(k.kind, c.start+uint64(len(want))+1))
				}
			}
			if got, rose, e := word.Tickets(k.kind, c.start, c.counts); !slices.Equal(got, want) || !rose || e != api.OK {
				t.Errorf("Tickets(%d, %d, %v): %d numbers, %v, %d", k.kind, c.start, c.counts, len(got), rose, e)
			}
		}
	}
}

func TestTicketsThatAreRefused(t *testing.T) { // P1.5
	tooMany := make([]int, api.MaxThreads+1)
	tooMany[3] = -1
	cases := []struct {
		kind   int
		counts []int
		e      api.Errno
	}{
		{word.Bool, tooMany, api.ErrKind}, {word.Bool, nil, api.ErrKind}, {word.U32, tooMany, api.ErrBig},
		{word.U32, []int{-1}, api.ErrArg}, {word.U32, []int{word.MaxFree + 1, -1}, api.ErrArg}, {word.U32, []int{1, math.MinInt}, api.ErrArg},
		{word.U32, []int{word.MaxFree + 1}, api.ErrBig}, {word.U32, []int{word.MaxFree, 1}, api.ErrBig},
		{word.I64, []int{math.MaxInt, math.MaxInt, 2}, api.ErrBig}, {word.I64, []int{math.MaxInt}, api.ErrBig},
	}
	for _, c := range cases {
		if got, rose, e := word.Tickets(c.kind, 3, c.counts); len(got) != 0 || rose || e != c.e {
			t.Errorf("Tickets(%d, 3, %v) = %v, %v, %d, want %d", c.kind, c.counts, got, rose, e, c.e)
		}
	}
}

func TestRace(t *testing.T) { // P1.6
	news := make([]uint64, api.MaxThreads)
	for i := range news {
		news[i] = 1<<40 + uint64(2*i+1)
	}
	for _, k := range allKinds {
		for range 50 {
			if wins, held, e := word.Race(k.kind, 0, news); wins != 1 || !held || e != api.OK {
				t.Fatalf("Race(%d, 0, ..) = %d, %v, %d", k.kind, wins, held, e)
			}
		}
		if wins, held, e := word.Race(k.kind, 1<<32+5, nil); wins != 0 || !held || e != api.OK {
			t.Errorf("Race(%d, ..) of none = %d, %v, %d", k.kind, wins, held, e)
		}
		if wins, held, e := word.Race(k.kind, 0, []uint64{1}); wins != 1 || !held || e != api.OK {
			t.Errorf("Race(%d, ..) of one = %d, %v, %d", k.kind, wins, held, e)
		}
	}
	if wins, held, e := word.Race(word.U32, 1<<32, []uint64{7, 9}); wins != 1 || !held || e != api.OK {
		t.Errorf("Race from what the word holds of start = %d, %v, %d", wins, held, e)
	}
}

func TestRaceThatIsRefused(t *testing.T) { // P1.6
	cases := []struct {
		kind  int
		start uint64
		news  []uint64
		e     api.Errno
	}{
		{word.U32, 0, []uint64{1 << 32}, api.ErrArg}, {word.I32, 1<<32 + 1, []uint64{2, 1<<33 + 1}, api.ErrArg}, {word.Bool, 3, []uint64{9}, api.ErrArg},
		{word.U64, 5, []uint64{1, 5, 2}, api.ErrArg}, {word.U32, 0, make([]uint64, api.MaxThreads+1), api.ErrBig}, {word.Uptr, 0, make([]uint64, api.MaxThreads), api.ErrArg},
	}
	for _, c := range cases {
		if wins, held, e := word.Race(c.kind, c.start, c.news); wins != 0 || held || e != c.e {
			t.Errorf("Race(%d, %d, %v) = %d, %v, %d", c.kind, c.start, c.news, wins, held, e)
		}
	}
}

// withSpare: the list, with room behind it that a call could write to.
func withSpare[T any](list []T, spare T) []T {
	for range 5 {
		list = append(list, spare)
	}
	return list[: len(list)-5 : len(list)]
}

func TestMemory(t *testing.T) { // P1.7
	acts := withSpare([]word.Act{{Kind: api.Add, A: 3}, {Kind: api.Swap, A: 4}, {Kind: api.Load}}, word.Act{Kind: 77})
	lists := withSpare([][]uint64{withSpare([]uint64{3, 1<<40 + 2}, 77), withSpare([]uint64{9}, 77)}, []uint64{77})
	counts := withSpare([]int{3, 0, 2}, 77)
	news := withSpare([]uint64{1<<40 + 3, 1}, 77)
	picture := func() string {
		whole := lists[:cap(lists)]
		return fmt.Sprint(acts[:cap(acts)], whole, lists[0][:cap(lists[0])], lists[1][:cap(lists[1])], counts[:cap(counts)], news[:cap(news)])
	}
	before := picture()
	for _, k := range allKinds {
		outs, _, _ := word.Do(k.kind, 1, acts)
		steps, _ := word.Steps(k.kind, 1, acts)
		for _, op := range opsOf(k.kind) {
			word.Gather(k.kind, op, 2, lists)
		}
		swaps, _ := word.Swaps(k.kind, 2, lists)
		tickets, _, _ := word.Tickets(k.kind, 2, counts)
		word.Race(k.kind, 0, news)
		clear(outs[:cap(outs)])
		for _, answer := range [][]uint64{steps, swaps, tickets} {
			clear(answer[:cap(answer)])
		}
		if picture() != before {
			t.Fatalf("kind %d: what was handed in has changed: %s, was %s", k.kind, picture(), before)
		}
	}
	if got, _ := word.Swaps(word.U32, 2, lists); !slices.Equal(got, []uint64{2, 2, 3, 9}) {
		t.Errorf("Swaps, asked again = %v", got)
	}
}

func TestThreadsHaveEnded(t *testing.T) { // P1.7
	before := runtime.NumGoroutine()
	lists := manyLists(4)
	for range 5 {
		word.Gather(word.U64, word.Max, 0, lists)
		word.Swaps(word.I64, 0, lists)
		word.Tickets(word.U32, 0, make([]int, api.MaxThreads))
		word.Race(word.Bool, 0, []uint64{1, 2, 3})
	}
	// A goroutine that has told its end is counted for a moment longer.
	for wait := 0; runtime.NumGoroutine() > before && wait < 1000; wait++ {
		time.Sleep(time.Millisecond)
	}
	if now := runtime.NumGoroutine(); now > before {
		t.Errorf("%d goroutines, %d ahead of the calls", now, before)
	}
}
