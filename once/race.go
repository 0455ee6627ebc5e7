package once

import (
	"sync"
	"sync/atomic"

	"larch/api"
	"larch/together"
)

const maxRacers = 1000 // goroutines of Race, of Latch

// Race: how many of n goroutines, which all call Do of one Once, ran the body; and how many saw that it was done.
func Race(n int) (int, int, api.Errno) {
	if e := numberError(n, maxRacers); e != api.OK {
		return 0, 0, e
	}
	var first sync.Once
	count := 0 // no atomic one: whoever comes back from Do sees what was done in it
	saw := make([]int, n)
	together.Run(n, func(thread int) {
		first.Do(func() { count++ })
		saw[thread] = count
	})
	return count, howMany(saw, 1), api.OK
}

// Latch: how many of n goroutines found the value that the one which came first had put.
func Latch(n int) (int, int, api.Errno) {
	if e := numberError(n, maxRacers); e != api.OK {
		return 0, 0, e
	}
	var latch atomic.Value
	put, loaded := make([]int, n), make([]int, n)
	together.Run(n, func(thread int) {
		number := thread + 1
		if latch.CompareAndSwap(nil, number) {
			put[thread] = number
		}
		loaded[thread], _ = latch.Load().(int)
	})
	wins, found := 0, 0
	for _, number := range put {
		if number != 0 {
			wins++
			found = howMany(loaded, number)
		}
	}
	return wins, found, api.OK
}

// howMany of the list are n.
func howMany(list []int, n int) int {
	count := 0
	for _, x := range list {
		if x == n {
			count++
		}
	}
	return count
}
