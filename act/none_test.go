package act

import (
	"errors"
	"testing"
)

// Ways: what is given up deep inside is caught, and what was not done is not done.
func TestGivingUpIsCaught(t *testing.T) {
	done := 0
	deep := func(ok bool) {
		done++
		must(1, ok)
		done += 10
	}
	if ends(func() { deep(false) }) || done != 1 {
		t.Errorf("it is told to have ended, or went on: %d", done)
	}
	if !ends(func() { deep(true) }) || done != 12 {
		t.Errorf("it is told not to have ended, or went no further: %d", done)
	}
	if got := must(2.5, true); got != 2.5 {
		t.Errorf("%v, not 2.5", got)
	}
}

// Ways: a fault of another kind is not taken for a number that is none.
func TestOtherPanicsGoOn(t *testing.T) {
	for _, what := range []any{errors.New("a fault"), 7, "noNumber", []int{1}, &noNumber{}} {
		func() {
			defer func() {
				if recover() == nil {
					t.Errorf("%v is caught", what)
				}
			}()
			ends(func() { panic(what) })
		}()
	}
}
