package lin

import "sync"

// A piece is what was worked out of one row, with the row's number.
type piece[T any] struct {
	row  int
	told T
}

// crew has so many workers go through the rows 0 to n - 1 side by side, and tells what they worked out in the order of the rows.
func crew[T any](n, workers int, work func(row int) T) []T {
	// Both channels have room for every row: nobody waits to send, so that no further goroutine is needed to fill or to empty one.
	todo, done := make(chan int, n), make(chan piece[T], n)
	for row := range n {
		todo <- row
	}
	close(todo)
	var busy sync.WaitGroup
	for range min(workers, n) {
		busy.Add(1)
		go func() {
			defer busy.Done()
			for row := range todo {
				done <- piece[T]{row, work(row)}
			}
		}()
	}
	busy.Wait()
	close(done)
	all := make([]T, n)
	for p := range done {
		all[p.row] = p.told
	}
	return all
}
