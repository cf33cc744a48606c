package verify

import (
	"sync"

	"ambit/api"
)

// An errand is a region that is to be looked at, with its place in the wave.
type errand struct {
	place  int
	region api.Region
}

// A report is what was found at the region of that place.
type report struct {
	place   int
	finding finding
}

// lookAtAll has workers look at a wave's regions side by side, and tells what they found in the wave's order.
func lookAtAll(wave []api.Region, workers int, look func(r api.Region, workers int) finding) []finding {
	// Both channels have room for the whole wave: nobody waits to send, so that no further goroutine is needed to fill or to empty one.
	errands, reports := make(chan errand, len(wave)), make(chan report, len(wave))
	for place, r := range wave {
		errands <- errand{place, r}
	}
	close(errands)
	crew := min(workers, len(wave))
	var busy sync.WaitGroup
	for range crew {
		busy.Add(1)
		go func() {
			defer busy.Done()
			for e := range errands {
				// In a wave of few regions the workers that are left over share the rows of its layers.
				reports <- report{e.place, look(e.region, workers/crew)}
			}
		}()
	}
	busy.Wait()
	close(reports)
	found := make([]finding, len(wave))
	for r := range reports {
		found[r.place] = r.finding
	}
	return found
}
