package word

import (
	"cmp"
	"slices"

	"larch/api"
	"larch/together"
)

// Gather: threads put their numbers to one word, all at once; what it holds in the end.
func Gather(kind, op int, start uint64, lists [][]uint64) (uint64, api.Errno) {
	if e := listsError(kind, lists); e != api.OK {
		return 0, e
	}
	if !canGather(kind, op) {
		return 0, api.ErrKind
	}
	w := newWord(kind, start)
	together.Run(len(lists), func(thread int) {
		for _, n := range lists[thread] {
			put(w, kind, op, n)
		}
	})
	return load(w), api.OK
}

// Swaps: threads swap their numbers into one word, all at once; what they got and what is left, together, sorted.
func Swaps(kind int, start uint64, lists [][]uint64) ([]uint64, api.Errno) {
	if e := listsError(kind, lists); e != api.OK {
		return nil, e
	}
	w := newWord(kind, start)
	got := make([][]uint64, len(lists))
	together.Run(len(lists), func(thread int) {
		mine := make([]uint64, len(lists[thread]))
		for i, n := range lists[thread] {
			mine[i] = w.do(Act{Kind: api.Swap, A: n}).Val
		}
		got[thread] = mine
	})
	all := append(slices.Concat(got...), load(w))
	slices.Sort(all)
	return all, api.OK
}

// Tickets: threads take numbers by adding 1, all at once; all of them, in their order; did each thread's rise?
func Tickets(kind int, start uint64, counts []int) ([]uint64, bool, api.Errno) {
	if e := countsError(kind, counts); e != api.OK {
		return nil, false, e
	}
	w := newWord(kind, start)
	got := make([][]uint64, len(counts))
	together.Run(len(counts), func(thread int) {
		mine := make([]uint64, counts[thread])
		for i := range mine {
			mine[i] = w.do(Act{Kind: api.Add, A: 1}).Val
		}
		got[thread] = mine
	})
	above := func(ticket uint64) uint64 { return narrow(kind, ticket-start) }
	rose := true
	for _, mine := range got {
		rose = rose && rises(mine, above)
	}
	all := slices.Concat(got...)
	slices.SortFunc(all, func(a, b uint64) int { return cmp.Compare(above(a), above(b)) })
	return all, rose, api.OK
}

func rises(tickets []uint64, above func(ticket uint64) uint64) bool {
	for i := 1; i < len(tickets); i++ {
		if above(tickets[i-1]) >= above(tickets[i]) {
			return false
		}
	}
	return true
}

// Race: threads try to put their number in the place of the first one, all at once; how many did, and is what is left the number of one that did?
func Race(kind int, start uint64, news []uint64) (int, bool, api.Errno) {
	if e := raceError(kind, start, news); e != api.OK {
		return 0, false, e
	}
	w := newWord(kind, start)
	won := make([]bool, len(news))
	together.Run(len(news), func(thread int) {
		won[thread] = w.do(Act{Kind: api.Cas, A: start, B: news[thread]}).Ok
	})
	left := load(w)
	wins, held := 0, len(news) == 0 && left == narrow(kind, start)
	for thread, ok := range won {
		if ok {
			wins++
			held = held || left == narrow(kind, news[thread])
		}
	}
	return wins, held, api.OK
}

// canGather: is there such an op for words of the kind?
func canGather(kind, op int) bool {
	switch op {
	case Xor, Max, Min:
		return true
	case api.Add, api.And, api.Or:
		return kind != Bool
	}
	return false
}

// put puts n to the word: by one access where sync/atomic has one, else by trying till no other thread came between.
func put(w word, kind, op int, n uint64) {
	if hasAccess(kind, op) {
		w.do(Act{Kind: op, A: n})
		return
	}
	for {
		held := load(w)
		if w.do(Act{Kind: api.Cas, A: held, B: merged(kind, op, held, narrow(kind, n))}).Ok {
			return
		}
	}
}

// merged takes held bits.
func merged(kind, op int, a, b uint64) uint64 {
	if op == Xor {
		return a ^ b
	}
	if less(kind, a, b) == (op == Max) {
		return b
	}
	return a
}

func listsError(kind int, lists [][]uint64) api.Errno {
	if !isKind(kind) {
		return api.ErrKind
	}
	if len(lists) > api.MaxThreads {
		return api.ErrBig
	}
	numbers := 0
	for _, list := range lists {
		numbers += len(list)
	}
	if numbers > MaxFree {
		return api.ErrBig
	}
	return api.OK
}

func countsError(kind int, counts []int) api.Errno {
	if !isKind(kind) || kind == Bool {
		return api.ErrKind
	}
	if len(counts) > api.MaxThreads {
		return api.ErrBig
	}
	for _, n := range counts {
		if n < 0 {
			return api.ErrArg
		}
	}
	room := MaxFree
	for _, n := range counts {
		if n > room {
			return api.ErrBig
		}
		room -= n
	}
	return api.OK
}

func raceError(kind int, start uint64, news []uint64) api.Errno {
	if !isKind(kind) {
		return api.ErrKind
	}
	if len(news) > api.MaxThreads {
		return api.ErrBig
	}
	for _, n := range news {
		if narrow(kind, n) == narrow(kind, start) {
			return api.ErrArg
		}
	}
	return api.OK
}
