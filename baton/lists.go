package baton

import (
	"slices"

	"larch/api"
)

const (
	mostWays   = 1000000
	mostOrders = 10000
	longOrder  = 1000 // numbers of a list of Orders
)

// Robin: all workers in turn, so many times.
func Robin(n, times int) ([]int, api.Errno) {
	if !isCrew(n) || times < 0 {
		return nil, api.ErrArg
	}
	if times > api.MaxPicks/n {
		return nil, api.ErrBig
	}
	picks := make([]int, n*times)
	for i := range picks {
		picks[i] = i % n
	}
	return picks, api.OK
}

// Thin: the workers of the steps that did something.
func Thin(steps []api.Step) []int {
	var workers []int
	for _, s := range steps {
		if s.Kind != -1 {
			workers = append(workers, s.Worker)
		}
	}
	return workers
}

// Ways: in how many orders so many picks of each worker can stand.
func Ways(lens []int) (int, api.Errno) {
	if len(lens) > api.MaxThreads || slices.ContainsFunc(lens, func(n int) bool { return n < 0 }) {
		return 0, api.ErrArg
	}
	ways, sum := 1, 0
	for _, n := range lens {
		ways *= mixes(sum, n)
		if ways > mostWays {
			return 0, api.ErrBig
		}
		sum += n
	}
	return ways, api.OK
}

// mixes: in how many orders a of one and b of another can stand; all that is above mostWays is told as one more than that, so that nothing goes round.
func mixes(a, b int) int {
	less, more := min(a, b), max(a, b)
	if less > 0 && more > mostWays {
		return mostWays + 1
	}
	ways := 1
	for i := 1; i <= less; i++ {
		ways = ways * (more + i) / i
		if ways > mostWays {
			return mostWays + 1
		}
	}
	return ways
}

// Orders: all of them.
func Orders(lens []int) ([][]int, api.Errno) {
	ways, e := Ways(lens)
	if e != api.OK {
		return nil, e
	}
	if ways > mostOrders {
		return nil, api.ErrBig
	}
	var order []int
	for worker, n := range lens {
		if n > longOrder-len(order) {
			return nil, api.ErrBig
		}
		order = append(order, slices.Repeat([]int{worker}, n)...)
	}
	orders := make([][]int, ways)
	for i := range orders {
		orders[i] = slices.Clone(order)
		toNext(order)
	}
	return orders, api.OK
}

// toNext makes of an order the one that comes behind it; the last one, which falls all along, stays.
func toNext(order []int) {
	at := len(order) - 2
	for at >= 0 && order[at] >= order[at+1] {
		at--
	}
	if at < 0 {
		return
	}
	tail := order[at+1:]
	above := len(tail) - 1
	for tail[above] <= order[at] {
		above--
	}
	order[at], tail[above] = tail[above], order[at]
	slices.Reverse(tail)
}
