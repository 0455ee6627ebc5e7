package count

import (
	"cmp"
	"slices"
	"sync"

	"larch/api"
	"larch/cell"
	"larch/together"
)

// Free: the threads do their operations without a gate.
func Free(cells []int, scripts [][]Op) (Freed, api.Errno) {
	if e := freeError(cells, scripts); e != api.OK {
		return Freed{}, e
	}
	nums := numsOf(cells)
	outs := runFree(nums, scripts)
	f := Freed{Cells: held(nums), Took: tookOf(len(cells), scripts, outs)}
	f.Tickets, f.Rose = ticketsOf(cells, scripts, outs)
	return f, api.OK
}

// freeError: scripts with a Sum are refused ahead of others whose outcome hangs on the schedule.
func freeError(cells []int, scripts [][]Op) api.Errno {
	all := 0
	for _, script := range scripts {
		all += len(script)
	}
	if e := refusal(cells, scripts, all > MaxFree); e != api.OK {
		return e
	}
	ops := slices.Concat(scripts...)
	if slices.ContainsFunc(ops, func(op Op) bool { return op.Kind == Sum }) {
		return api.ErrKind
	}
	if !areFree(cells, ops) {
		return api.ErrArg
	}
	return api.OK
}

// areFree: does no cell's use hang on the schedule? None of the operations is a Sum.
func areFree(cells []int, ops []Op) bool {
	sorts := make([]int, len(cells)) // by cell: the sort of the operations with that At; 0: there is none
	locks := make([]int, len(cells)) // by cell: the lock under which it is counted, or none
	for at := range locks {
		locks[at] = none
	}
	for _, op := range ops {
		if sorts[op.At] != 0 && sorts[op.At] != sortOf(op.Kind) {
			return false
		}
		sorts[op.At] = sortOf(op.Kind)
		if op.Kind != Locked {
			continue
		}
		if cells[op.At] != open || locks[op.A] != none && locks[op.A] != op.At {
			return false
		}
		locks[op.A] = op.At
	}
	for at, lock := range locks {
		if lock != none && sorts[at] != 0 {
			return false
		}
	}
	return true
}

// sortOf: kinds of one sort do no harm to each other on one cell.
func sortOf(kind int) int {
	if kind == Inc || kind == Ticket {
		return Plus
	}
	return kind
}

// runFree: all threads at once; by thread, what its operations answered. The compare-and-swap of a Locked succeeds at once: whoever would have to wait for it sleeps ahead of it instead of trying again and again.
func runFree(nums []cell.Num, scripts [][]Op) [][]out {
	outs := make([][]out, len(scripts))
	doors := make([]sync.Mutex, len(nums))
	together.Run(len(scripts), func(thread int) {
		mine := make([]out, len(scripts[thread]))
		h := newHand(nums)
		for i, op := range scripts[thread] {
			if op.Kind == Locked {
				doors[op.At].Lock()
			}
			mine[i] = h.do(nil, op)
			if op.Kind == Locked {
				doors[op.At].Unlock()
			}
		}
		outs[thread] = mine
	})
	return outs
}

// tookOf: by cell, how many Takes were told true.
func tookOf(cells int, scripts [][]Op, outs [][]out) []int {
	took := make([]int, cells)
	for thread, script := range scripts {
		for i, op := range script {
			if op.Kind == Take && outs[thread][i].ok {
				took[op.At]++
			}
		}
	}
	return took
}

// ticketsOf: of each cell on which there is nothing but tickets, all of them, by what they are above what it held; and did each thread's own ones rise?
func ticketsOf(cells []int, scripts [][]Op, outs [][]out) ([][]int, bool) {
	tickets, rose := make([][]int, len(cells)), true
	mixed := addedTo(len(cells), scripts)
	for thread, script := range scripts {
		last := make([]int, len(cells)) // by cell: how far above was the thread's last ticket?
		for i, op := range script {
			if op.Kind != Ticket || mixed[op.At] {
				continue
			}
			ticket := outs[thread][i].val
			above := ticket - cells[op.At]
			rose = rose && above > last[op.At]
			last[op.At] = above
			tickets[op.At] = append(tickets[op.At], ticket)
		}
	}
	for at, list := range tickets {
		slices.SortFunc(list, func(a, b int) int { return cmp.Compare(a-cells[at], b-cells[at]) })
	}
	return tickets, rose
}

// addedTo: by cell, is there an Inc or a Plus with that At?
func addedTo(cells int, scripts [][]Op) []bool {
	added := make([]bool, cells)
	for _, op := range slices.Concat(scripts...) {
		if op.Kind == Inc || op.Kind == Plus {
			added[op.At] = true
		}
	}
	return added
}
