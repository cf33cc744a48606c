package point

import (
	"errors"
	"testing"

	"ambit/api"
)

// Ways: what is too long deep inside gives up, and is caught; what was not done is not done.
func TestGivingUpIsCaught(t *testing.T) {
	done := 0
	work := func(x api.Dyad) func() int {
		return func() int {
			done++
			exactOf(x).shifted(1).small()
			done += 10
			return 7
		}
	}
	if told, e := fitting(work(dyad(1, 65536))); told != 0 || e != api.ErrBits || done != 1 {
		t.Errorf("%d %v, or it went on: %d", told, e, done)
	}
	if told, e := fitting(work(dyad(1, 65535))); told != 7 || e != api.OK || done != 12 {
		t.Errorf("%d %v, or it went no further: %d", told, e, done)
	}
}

// Ways: a fault of another kind is not taken for a number that is too long.
func TestOtherPanicsGoOn(t *testing.T) {
	for _, what := range []any{errors.New("a fault"), 7, "tooLong", []int{1}, &tooLong{}, struct{}{}} {
		func() {
			defer func() {
				if recover() == nil {
					t.Errorf("%v is caught", what)
				}
			}()
			fitting(func() int { panic(what) })
		}()
	}
}
