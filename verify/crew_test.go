package verify

import (
	"runtime"
	"slices"
	"sync"
	"sync/atomic"
	"testing"
	"time"

	"ambit/api"
	"ambit/cases"
	"ambit/samples"
)

// parts are so many regions, each of which tells its place.
func parts(n int) []api.Region {
	var l []api.Region
	for i := range n {
		l = append(l, region(8, i))
	}
	return l
}

// Ways: each region of a wave is looked at once, and told at its place, however many regions and workers there are.
func TestEachRegionIsLookedAt(t *testing.T) {
	for _, n := range []int{0, 1, 2, 3, 15, 16, 17, 256} {
		for workers := 1; workers <= 16; workers++ {
			times := make([]atomic.Int32, n)
			found := lookAtAll(parts(n), workers, func(r api.Region, _ int) finding {
				times[r.At[0]].Add(1)
				return finding{claim: r.At[0]}
			})
			if len(found) != n {
				t.Fatalf("%d regions, %d workers: %d told", n, workers, len(found))
			}
			for i, f := range found {
				if times[i].Load() != 1 || f.claim != i {
					t.Errorf("%d regions, %d workers: the region %d was looked at %d times, and told as %d", n, workers, i, times[i].Load(), f.claim)
				}
			}
		}
	}
}

// Ways: regions are looked at side by side: each worker waits here until all have begun.
func TestLooksSideBySide(t *testing.T) {
	for workers := 1; workers <= 16; workers++ {
		var begun sync.WaitGroup
		begun.Add(workers)
		met := make(chan struct{})
		go func() {
			begun.Wait()
			close(met)
		}()
		found := lookAtAll(parts(workers), workers, func(api.Region, int) finding {
			begun.Done()
			select {
			case <-met:
				return finding{outcome: settled}
			case <-time.After(10 * time.Second):
				return finding{outcome: stopped}
			}
		})
		if slices.ContainsFunc(found, finding.isStopped) {
			t.Fatalf("of %d workers one waited in vain", workers)
		}
	}
}

// 19.3: so many workers, and no more: those at regions, each with its share of the rest.
func TestCrewIsNoGreater(t *testing.T) {
	for workers := 1; workers <= 16; workers++ {
		for _, n := range []int{1, 2, 3, 5, 16, 64} {
			var now, most atomic.Int32
			lookAtAll(parts(n), workers, func(_ api.Region, own int) finding {
				k := now.Add(int32(own))
				defer now.Add(int32(-own))
				for m := most.Load(); k > m && !most.CompareAndSwap(m, k); m = most.Load() {
				}
				if own < 1 {
					most.Store(99)
				}
				runtime.Gosched()
				return finding{}
			})
			if most.Load() > int32(workers) || now.Load() != 0 {
				t.Errorf("%d workers, %d regions: %d at once, %d at the end", workers, n, most.Load(), now.Load())
			}
		}
	}
}

// ended tells whether there are no more goroutines than there were; one that has done all it had to do may need a moment to be gone.
func ended(before int) bool {
	for range 1000 {
		if runtime.NumGoroutine() <= before {
			return true
		}
		time.Sleep(time.Millisecond)
	}
	return false
}

// 19.8, rule 6: all goroutines have ended, whatever is answered. (This one runs alone: the others have workers too.)
func TestGoroutinesEnd(t *testing.T) {
	before := runtime.NumGoroutine()
	expect := func(what string) {
		t.Helper()
		if !ended(before) {
			t.Fatalf("%d goroutines, not %d, behind %s", runtime.NumGoroutine(), before, what)
		}
	}
	for _, n := range append(samples.Nets(), cases.Bumps(1.5, numbers(-0.25, 0.75)), cases.Kinks(-0.5, 0.5)) {
		p := cases.Within(samples.QuestionTo(n, 2), 3, 9)
		net, prop := encoded(t, n, p)
		for _, workers := range []int{0, 1, 2, 16, 17} {
			Judge(n, p, workers)
			expect("Judge")
			Radius(n, p, 2, workers)
			expect("Radius")
			for _, done := range []<-chan struct{}{nil, closed()} {
				Side(done, workers, net, prop)
				expect("Side")
			}
		}
		Verify(net, prop)
		Verify(net, nil)
		expect("Verify")
	}
}

// 19.5, 19.8: so they have where a search was stopped on its way.
func TestGoroutinesEndWhereStopped(t *testing.T) {
	before := runtime.NumGoroutine()
	n, p := long()
	net, prop := encoded(t, n, p)
	for i := range 12 {
		stop := api.NewStop()
		timer := time.AfterFunc(time.Duration(i)*time.Millisecond, stop.Close)
		Side(stop.Done(), 1+i, net, prop)
		timer.Stop()
		if !ended(before) {
			t.Fatalf("%d goroutines, not %d", runtime.NumGoroutine(), before)
		}
	}
}
