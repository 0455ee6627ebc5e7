package snap

import (
	"slices"

	"larch/api"
	"larch/together"
)

// The limits of the free runs.
const (
	MaxFree = 5000 // snapshots, numbers, of all threads together
)

// Freed is what a free run came to.
type Freed struct {
	Snaps int  // how many snapshots were taken
	Chain bool // of any two of them, is one nowhere behind the other?
	Rise  bool // do each thread's own rise?
	Own   bool // has each writer's own register its last number in its snapshots?
	Regs  []int
}

// Free: threads that write their own registers, and threads that look, without a gate.
func Free(writers, writes, readers, looks int) (Freed, api.Errno) {
	if e := freeError(writers, writes, readers, looks); e != api.OK {
		return Freed{}, e
	}
	r := rowOf(make([]int, writers))
	seen := make([][][]int, writers+readers) // by thread, the writers first: its snapshots
	together.Run(len(seen), func(thread int) {
		if thread < writers {
			seen[thread] = r.writeAndLook(thread, writes)
		} else {
			seen[thread] = r.look(looks)
		}
	})
	all := slices.Concat(seen...)
	return Freed{
		Snaps: len(all),
		Chain: isChain(all),
		Rise:  !slices.ContainsFunc(seen, falls),
		Own:   areOwn(seen[:writers]),
		Regs:  r.held(),
	}, api.OK
}

// writeAndLook: the snapshots of a writer, one behind each write.
func (r row) writeAndLook(writer, writes int) [][]int {
	snaps := make([][]int, writes)
	for i := range snaps {
		r.do(nil, Op{Kind: Write, At: writer, A: i + 1})
		snaps[i], _ = r.snap(nil)
	}
	return snaps
}

// look: the snapshots of a reader.
func (r row) look(looks int) [][]int {
	snaps := make([][]int, looks)
	for i := range snaps {
		snaps[i], _ = r.snap(nil)
	}
	return snaps
}

// isChain: where of any two one is nowhere above the other, neighbours in the order of lists don't fall; and where no neighbours fall, that holds of any two. So not all pairs need to be looked at.
func isChain(snaps [][]int) bool {
	sorted := slices.Clone(snaps)
	slices.SortFunc(sorted, slices.Compare)
	return !falls(sorted)
}

// falls: is one somewhere below the one ahead of it?
func falls(snaps [][]int) bool {
	for i := 1; i < len(snaps); i++ {
		for at, n := range snaps[i] {
			if n < snaps[i-1][at] {
				return true
			}
		}
	}
	return false
}

// areOwn: has each snapshot of a writer, in the writer's own register, what it wrote last?
func areOwn(seen [][][]int) bool {
	for writer, snaps := range seen {
		for i, snap := range snaps {
			if snap[writer] != i+1 {
				return false
			}
		}
	}
	return true
}

// Trades: threads trade their numbers in one register, without a gate; what they got and what is left, together, sorted.
func Trades(first int, lists [][]int) ([]int, api.Errno) {
	if e := tradesError(lists); e != api.OK {
		return nil, e
	}
	r := rowOf([]int{first})
	got := make([][]int, len(lists))
	together.Run(len(lists), func(thread int) {
		mine := make([]int, len(lists[thread]))
		for i, n := range lists[thread] {
			mine[i] = r.do(nil, Op{Kind: Trade, A: n}).Val
		}
		got[thread] = mine
	})
	all := append(slices.Concat(got...), r.held()...)
	slices.Sort(all)
	return all, api.OK
}
