package together_test

import (
	"runtime"
	"slices"
	"sync"
	"testing"

	"larch/together"
)

func TestRunRunsEachThreadOnce(t *testing.T) {
	for _, threads := range []int{0, 1, 2, 64, 1000} {
		runs := make([]int, threads)
		together.Run(threads, func(thread int) { runs[thread]++ })
		if !slices.Equal(runs, slices.Repeat([]int{1}, threads)) {
			t.Errorf("Run(%d): the threads ran %v times", threads, runs)
		}
	}
}

func TestRunRunsThemAllAtOnce(t *testing.T) {
	const threads = 10
	met := make(chan int) // nobody gets through unless all others run meanwhile
	together.Run(threads, func(thread int) {
		if thread > 0 {
			met <- thread
			return
		}
		for range threads - 1 {
			<-met
		}
	})
}

// TestNobodyBeginsAheadOfTheOthersStart: none ends till all have counted, so whoever begins finds all of them.
func TestNobodyBeginsAheadOfTheOthersStart(t *testing.T) {
	const threads = 200
	for range 50 {
		found := make([]int, threads)
		var counting sync.WaitGroup
		counting.Add(threads)
		together.Run(threads, func(thread int) {
			found[thread] = runtime.NumGoroutine()
			counting.Done()
			counting.Wait()
		})
		if least := slices.Min(found); least < threads {
			t.Fatalf("one began when there were %d goroutines", least)
		}
	}
}
