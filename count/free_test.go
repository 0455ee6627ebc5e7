package count_test

import (
	"cmp"
	"math"
	"math/rand"
	"slices"
	"testing"

	"larch/api"
	"larch/count"
)

func sameFreed(a, b count.Freed) bool {
	sameTickets := slices.EqualFunc(a.Tickets, b.Tickets, func(x, y []int) bool { return slices.Equal(x, y) })
	return sameTickets && slices.Equal(a.Cells, b.Cells) && slices.Equal(a.Took, b.Took) && a.Rose == b.Rose
}

// freed: what the promise says of scripts that are free, by the operations alone, whatever the schedule.
func freed(cells []int, scripts [][]count.Op) count.Freed {
	all := slices.Concat(scripts...)
	f := count.Freed{Cells: slices.Clone(cells), Took: make([]int, len(cells)), Tickets: make([][]int, len(cells)), Rose: true}
	for at, first := range cells {
		tickets, others := 0, 0
		for _, op := range all {
			if op.Kind == count.Locked && op.A == at {
				f.Cells[at]++
			}
			if op.At != at {
				continue
			}
			switch op.Kind {
			case count.Inc, count.Plus:
				f.Cells[at] += op.A
				others++
			case count.Ticket:
				f.Cells[at]++
				tickets++
			case count.Top:
				f.Cells[at] = max(f.Cells[at], op.A)
			case count.Take:
				if f.Cells[at] > 0 {
					f.Cells[at]--
					f.Took[at]++
				}
			}
		}
		for i := range tickets {
			if others == 0 {
				f.Tickets[at] = append(f.Tickets[at], first+1+i)
			}
		}
	}
	return f
}

// freedByMachine: the same from the answers under one schedule.
func freedByMachine(r *rand.Rand, cells []int, scripts [][]count.Op) count.Freed {
	m := newMachine(cells, scripts)
	for !m.allEnded() {
		m.pick(r.Intn(len(scripts)))
	}
	f := count.Freed{Cells: m.cells, Took: make([]int, len(cells)), Tickets: make([][]int, len(cells)), Rose: true}
	for at, first := range cells {
		only := !slices.ContainsFunc(slices.Concat(scripts...), func(op count.Op) bool { return op.At == at && op.Kind != count.Ticket })
		for _, t := range m.threads {
			for i, a := range t.answers {
				if t.script[i].At != at {
					continue
				}
				if t.script[i].Kind == count.Take && a.Ok {
					f.Took[at]++
				}
				if t.script[i].Kind == count.Ticket && only {
					f.Tickets[at] = append(f.Tickets[at], a.Val)
				}
			}
		}
		slices.SortFunc(f.Tickets[at], func(a, b int) int { return cmp.Compare(uint(a-first), uint(b-first)) })
	}
	return f
}

// areFree: pair by pair, as the chapter says.
func areFree(cells []int, all []count.Op) bool {
	sort := []int{0, 1, 1, 2, 1, 3, 0, 4}
	for _, x := range all {
		if x.Kind == count.Locked && cells[x.At] != 0 {
			return false
		}
		for _, y := range all {
			if x.At == y.At && sort[x.Kind] != sort[y.Kind] || x.Kind == count.Locked && y.At == x.A {
				return false
			}
			if x.Kind == count.Locked && y.Kind == count.Locked && x.A == y.A && x.At != y.At {
				return false
			}
		}
	}
	return true
}

func wantFree(t *testing.T, cells []int, scripts [][]count.Op) {
	t.Helper()
	want := freed(cells, scripts)
	if got, e := count.Free(cells, scripts); e != api.OK || !sameFreed(got, want) {
		t.Fatalf("Free(%v, %v) = %v, %d, want %v", cells, scripts, got, e, want)
	}
}

func TestFreeByExamples(t *testing.T) { // P8.7
	ticket, take, locked := count.Op{Kind: count.Ticket}, count.Op{Kind: count.Take}, count.Op{Kind: count.Locked, A: 1}
	numbers := make([]int, 300)
	for i := range numbers {
		numbers[i] = i + 1
	}
	for _, c := range []struct {
		cells   []int
		scripts [][]count.Op
		want    count.Freed
		e       api.Errno
	}{
		{[]int{0}, threads(times(100, ticket), times(100, ticket), times(100, ticket)), count.Freed{Cells: []int{300}, Tickets: [][]int{numbers}, Took: []int{0}, Rose: true}, api.OK},
		{[]int{5}, threads(times(3, take), times(4, take)), count.Freed{Cells: []int{0}, Tickets: [][]int{nil}, Took: []int{5}, Rose: true}, api.OK},
		{[]int{0, 0}, threads(ops(locked, locked), ops(locked)), count.Freed{Cells: []int{0, 3}, Tickets: [][]int{nil, nil}, Took: []int{0, 0}, Rose: true}, api.OK},
		{[]int{9223372036854775807}, threads(ops(inc)), count.Freed{Cells: []int{-9223372036854775808}, Tickets: [][]int{nil}, Took: []int{0}, Rose: true}, api.OK},
		{[]int{0, 0}, threads(ops(locked), ops(count.Op{Kind: count.Plus, A: 1})), count.Freed{}, api.ErrArg},
		{[]int{0, 0}, threads(ops(locked), ops(count.Op{Kind: count.Plus, At: 1, A: 1})), count.Freed{}, api.ErrArg},
		{[]int{0}, threads(ops(count.Op{Kind: count.Top, A: 1}), ops(take)), count.Freed{}, api.ErrArg},
		{[]int{0}, threads(ops(count.Op{Kind: count.Sum})), count.Freed{}, api.ErrKind},
	} {
		if got, e := count.Free(c.cells, c.scripts); e != c.e || !sameFreed(got, c.want) {
			t.Errorf("Free(%v, %v) = %v, %d", c.cells, c.scripts, got, e)
		}
	}
}

// freeOp: an operation that is free beside all others of its like: cells 0 to 5 are for one sort each; the locks 4 and 5 count the cells 6, 7 and 8.
func freeOp(r *rand.Rand) count.Op {
	switch at := r.Intn(6); at {
	case 0:
		return count.Op{Kind: []int{count.Inc, count.Plus, count.Ticket}[r.Intn(3)], At: at, A: edges[r.Intn(len(edges))]}
	case 1:
		return count.Op{Kind: count.Ticket, At: at, A: r.Intn(9)}
	case 2:
		return count.Op{Kind: count.Top, At: at, A: edges[r.Intn(len(edges))]}
	case 3:
		return count.Op{Kind: count.Take, At: at, A: r.Intn(9)}
	case 4:
		return count.Op{Kind: count.Locked, At: at, A: 6 + r.Intn(2)}
	}
	return count.Op{Kind: count.Locked, At: 5, A: 8}
}

func TestFreeByChance(t *testing.T) { // P8.7
	r := rand.New(rand.NewSource(9))
	for range 200 {
		cells := make([]int, 9)
		for at := range cells {
			if at != 4 && at != 5 {
				cells[at] = []int{0, 1, 7, 30, -4, math.MaxInt, math.MaxInt - 3, math.MinInt}[r.Intn(8)]
			}
		}
		scripts := make([][]count.Op, 1+r.Intn(8))
		for i := range scripts {
			for range r.Intn(40) {
				scripts[i] = append(scripts[i], freeOp(r))
			}
		}
		wantFree(t, cells, scripts)
		if byMachine := freedByMachine(r, cells, scripts); !sameFreed(byMachine, freed(cells, scripts)) {
			t.Fatalf("the machine comes to %v, the words to %v", byMachine, freed(cells, scripts))
		}
	}
}

// TestFreeInACrowd: as many threads and operations as there may be, all on one cell.
func TestFreeInACrowd(t *testing.T) { // P8.7
	for _, op := range []count.Op{
		{Kind: count.Inc, A: 3}, {Kind: count.Plus, A: -1}, {Kind: count.Ticket}, {Kind: count.Top, A: 1}, {Kind: count.Take}, {Kind: count.Locked, A: 1},
	} {
		scripts := slices.Repeat(threads(times(count.MaxFree/64, op)), 64)
		if op.Kind == count.Top {
			for thread := range scripts {
				scripts[thread] = slices.Clone(scripts[thread])
				for i := range scripts[thread] {
					scripts[thread][i].A = i*64 + thread
				}
			}
		}
		cells := []int{7000, math.MaxInt}
		if op.Kind == count.Locked {
			cells[0] = 0
		}
		wantFree(t, cells, scripts)
	}
	wantFree(t, []int{0}, slices.Repeat(threads(times(api.MaxOps, count.Op{Kind: count.Ticket})), 20))
	one := threads(times(1, count.Op{Kind: count.Ticket}))
	if f, e := count.Free([]int{0}, slices.Concat(slices.Repeat(threads(times(api.MaxOps, inc)), 20), one)); e != api.ErrBig || !sameFreed(f, count.Freed{}) {
		t.Errorf("one operation too many: %v, %d", f, e)
	}
}

// TestFreeTicketsThatWrap: they stand by what they are above what the cell held, and rise by the same.
func TestFreeTicketsThatWrap(t *testing.T) { // P8.7
	ticket := count.Op{Kind: count.Ticket}
	f, e := count.Free([]int{math.MaxInt - 1}, threads(times(2, ticket), times(2, ticket)))
	if want := []int{math.MaxInt, math.MinInt, math.MinInt + 1, math.MinInt + 2}; e != api.OK || !slices.Equal(f.Tickets[0], want) || !f.Rose || f.Cells[0] != want[3] {
		t.Errorf("Free = %v, %d", f, e)
	}
	for _, mix := range []count.Op{{Kind: count.Plus}, {Kind: count.Inc, A: -1}} { // also one that adds nothing
		f, e = count.Free([]int{3, 0}, threads(ops(ticket, ticket), ops(mix, count.Op{Kind: count.Ticket, At: 1})))
		if e != api.OK || len(f.Tickets[0]) != 0 || !slices.Equal(f.Tickets[1], []int{1}) || f.Cells[0] != 5+mix.A || !f.Rose {
			t.Errorf("Free with %v = %v, %d", mix, f, e)
		}
	}
}

func TestFreeOfLittle(t *testing.T) { // P8.7
	wantFree(t, nil, threads(nil))
	wantFree(t, nil, threads(nil, ops()))
	wantFree(t, []int{math.MinInt, 4}, threads(nil))
	wantFree(t, []int{-3, 0}, threads(times(3, count.Op{Kind: count.Take}), times(3, count.Op{Kind: count.Take, At: 1})))
	if f, _ := count.Free([]int{1, 2}, threads(nil)); len(f.Tickets) != 2 || len(f.Took) != 2 {
		t.Errorf("Free of no operations = %v", f)
	}
}

// TestWhichScriptsAreFree: all scripts of up to three operations, of few kinds and cells, in one thread and in several.
func TestWhichScriptsAreFree(t *testing.T) { // P8.7
	var words []count.Op
	for at := range 3 {
		for kind := count.Inc; kind <= count.Take; kind++ {
			words = append(words, count.Op{Kind: kind, At: at, A: 2})
		}
		for counted := range 3 {
			if counted != at {
				words = append(words, count.Op{Kind: count.Locked, At: at, A: counted})
			}
		}
	}
	look := func(cells []int, list ...count.Op) {
		split := threads()
		for _, op := range list {
			split = append(split, ops(op))
		}
		for _, scripts := range [][][]count.Op{threads(list), split, threads(list[1:], nil, list[:1])} {
			want := api.OK
			if !areFree(cells, list) {
				want = api.ErrArg
			}
			if f, e := count.Free(cells, scripts); e != want || e != api.OK && (f.Cells != nil || f.Tickets != nil || f.Took != nil || f.Rose) {
				t.Fatalf("Free(%v, %v) = %v, %d, want %d", cells, scripts, f, e, want)
			}
		}
	}
	for _, x := range words {
		for _, cells := range [][]int{{0, 0, 0}, {1, 0, 0}, {0, -1, 0}, {0, 0, 7}} {
			look(cells, x)
			for _, y := range words {
				look(cells, x, y)
			}
		}
		for _, y := range words {
			for _, z := range words {
				look([]int{0, 0, 3}, x, y, z)
			}
		}
	}
}

func TestFreeThatIsRefused(t *testing.T) { // P8.7
	for name, c := range refusals() {
		if c.e == api.OK {
			continue
		}
		if f, e := count.Free(c.cells, c.scripts); e != c.e || f.Cells != nil || f.Rose {
			t.Errorf("%s: Free = %v, %d, want %d", name, f, e, c.e)
		}
	}
	sum, top, bad := count.Op{Kind: count.Sum}, count.Op{Kind: count.Top}, count.Op{Kind: 8}
	for _, c := range []struct {
		name    string
		cells   []int
		scripts [][]count.Op
		e       api.Errno
	}{
		{"a Sum behind others that aren't free", []int{0}, threads(ops(top, inc), ops(sum)), api.ErrKind},
		{"a Sum ahead of a lost one", []int{0}, threads(ops(sum), ops(count.Op{Kind: count.Inc, At: 1})), api.ErrArg},
		{"a Sum and a kind of nobody", []int{0}, threads(ops(sum, bad)), api.ErrKind},
		{"too many, and one of no kind", []int{0}, slices.Repeat(threads(times(1000, bad)), 21), api.ErrBig},
		{"too many scripts, and too much in all", []int{0}, slices.Repeat(threads(times(1000, bad)), 65), api.ErrArg},
		{"not free, and a lost one", []int{0}, threads(ops(top, inc, count.Op{Kind: count.Inc, At: -1})), api.ErrArg},
		{"not free, and one of no kind", []int{0}, threads(ops(top, inc), ops(bad)), api.ErrKind},
		{"a lock that is held", []int{2, 0}, threads(ops(count.Op{Kind: count.Locked, A: 1})), api.ErrArg},
		{"counted under two locks", []int{0, 0, 0}, threads(ops(count.Op{Kind: count.Locked, A: 2}), ops(count.Op{Kind: count.Locked, At: 1, A: 2})), api.ErrArg},
		{"a lock that is counted", []int{0, 0, 0}, threads(ops(count.Op{Kind: count.Locked, A: 1}), ops(count.Op{Kind: count.Locked, At: 1, A: 2})), api.ErrArg},
	} {
		if f, e := count.Free(c.cells, c.scripts); e != c.e || f.Cells != nil || f.Tickets != nil || f.Took != nil || f.Rose {
			t.Errorf("%s: Free = %v, %d, want %d", c.name, f, e, c.e)
		}
	}
}
