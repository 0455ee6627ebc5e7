// Package together runs goroutines that are all joined. It is no layer: those that run threads without a gate lean on it.
package together

import "sync"

// Run runs so many threads, numbered from 0, all at once, and answers when all have ended.
func Run(threads int, run func(thread int)) {
	var all sync.WaitGroup
	all.Add(threads)
	for thread := range threads {
		go func() {
			defer all.Done()
			run(thread)
		}()
	}
	all.Wait()
}
