package lin

import (
	"runtime"
	"strconv"
	"sync"
	"sync/atomic"
	"testing"
	"time"

	"ambit/api"
	"ambit/samples"
)

// Ways: each row is worked once, and told at its place, whatever is worked out and however many rows and workers there are.
func TestCrewTellsEachRow(t *testing.T) {
	for _, n := range []int{0, 1, 2, 3, 15, 16, 17, 256} {
		for workers := 1; workers <= 16; workers++ {
			times := make([]atomic.Int32, n)
			names := crew(n, workers, func(row int) string {
				times[row].Add(1)
				return strconv.Itoa(row)
			})
			squares := crew(n, workers, func(row int) int { return row * row })
			if len(names) != n || len(squares) != n {
				t.Fatalf("%d rows, %d workers: %d and %d told", n, workers, len(names), len(squares))
			}
			for row := range n {
				if times[row].Load() != 1 || names[row] != strconv.Itoa(row) || squares[row] != row*row {
					t.Errorf("%d rows, %d workers: row %d was worked %d times, and tells %s and %d", n, workers, row, times[row].Load(), names[row], squares[row])
				}
			}
		}
	}
}

// Ways: workers stand side by side: each of them waits here until all have begun.
func TestCrewWorksSideBySide(t *testing.T) {
	for workers := 1; workers <= 16; workers++ {
		var begun sync.WaitGroup
		begun.Add(workers)
		met := make(chan struct{})
		go func() {
			begun.Wait()
			close(met)
		}()
		all := crew(workers, workers, func(int) bool {
			begun.Done()
			select {
			case <-met:
				return true
			case <-time.After(10 * time.Second):
				return false
			}
		})
		for row, ok := range all {
			if !ok {
				t.Fatalf("of %d workers %d waited in vain", workers, row)
			}
		}
	}
}

// Ways: no more workers than were asked for.
func TestCrewIsNoGreater(t *testing.T) {
	for workers := 1; workers <= 16; workers++ {
		var now, most atomic.Int32
		crew(64, workers, func(int) int {
			k := now.Add(1)
			defer now.Add(-1)
			for m := most.Load(); k > m && !most.CompareAndSwap(m, k); m = most.Load() {
			}
			runtime.Gosched()
			return 0
		})
		if most.Load() > int32(workers) || now.Load() != 0 {
			t.Errorf("%d workers: %d at once, %d at the end", workers, most.Load(), now.Load())
		}
	}
}

// ended tells whether there are no more goroutines than there were; one that has done all it had to do may need a moment to be gone.
func ended(before int) bool {
	for range 1000 {
		if runtime.NumGoroutine() <= before {
			return true
		}
		time.Sleep(time.Millisecond)
	}
	return false
}

// 12.6: all goroutines have ended, whatever is answered.
func TestGoroutinesEnd(t *testing.T) {
	before := runtime.NumGoroutine()
	for _, s := range append(ordinary(), others()...) {
		for _, workers := range []int{0, 1, 2, 15, 16, 17} {
			for _, z := range append(anyhow(s.size()), huge(s.size())) {
				Step(z, s.l, s.in, workers)
				if !ended(before) {
					t.Fatalf("%d goroutines, not %d, behind %s of %s by %d", runtime.NumGoroutine(), before, text(s.l), text(z), workers)
				}
			}
		}
	}
}

// huge is a zonotope of which most rows have no image.
func huge(n int) api.Zono {
	z := samples.WideZono(n, 1)
	for i := range n {
		z.C[i], z.R[i] = 0x1p1023, 0x1p1023
	}
	return z
}
