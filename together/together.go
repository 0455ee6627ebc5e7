// Package together runs goroutines that are all joined. It is no layer: those that run threads without a gate lean on it.
package together

import "sync"

// Run runs so many threads, numbered from 0, and answers when all have ended. They begin together: none of them ahead of the start of the last one.
func Run(threads int, run func(thread int)) {
	begin := make(chan struct{}) // closed when all have been started
	var all sync.WaitGroup
	all.Add(threads)
	for thread := range threads {
		go func() {
			defer all.Done()
			<-begin
			run(thread)
		}()
	}
	close(begin)
	all.Wait()
}
