// Package gather has work done by goroutines, part by part, and gathers what they
// make: both engines work the digests of their trees out so.
package gather

import "sync"

// Enough parts keep the machine busy; more of them would but wait for each other.
const Enough = 16

// made is what was made of the part at a place.
type made[R any] struct {
	at     int
	result R
}

// All is what work makes of each of the parts, in their order. Each part has a
// goroutine of its own, so that work may read what is shared, but not write.
func All[P, R any](parts []P, work func(P) R) []R {
	results := make(chan made[R])
	defer close(results)
	done := make(chan struct{})
	var workers sync.WaitGroup
	for at, part := range parts {
		workers.Add(1)
		go func() {
			defer workers.Done()
			results <- made[R]{at, work(part)}
		}()
	}
	go func() {
		defer close(done)
		workers.Wait()
	}()
	out := make([]R, len(parts))
	for {
		// All is taken when done is closed, for nobody is done ahead of that: results
		// has no room of its own.
		select {
		case m := <-results:
			out[m.at] = m.result
		case <-done:
			return out
		}
	}
}
