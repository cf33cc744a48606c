package margin

import (
	"errors"
	"testing"

	"ambit/api"
)

// Ways: what gives up deep inside is caught; what was not done is not done.
func TestGivingUpIsCaught(t *testing.T) {
	done := 0
	work := func(r row) func() api.Dyad {
		return func() api.Dyad {
			done++
			x := bounded(r.over([]api.Dyad{numberOf(1)}))
			done += 10
			return x
		}
	}
	if told, ok := unlessGivenUp(work(row{numbers(0x1p1001), 0})); len(told.M) > 0 || ok || done != 1 {
		t.Errorf("%v %v, or it went on: %d", told, ok, done)
	}
	if told, ok := unlessGivenUp(work(row{numbers(0x1p1000), 0})); told.E != 1000 || !ok || done != 12 {
		t.Errorf("%v %v, or it went no further: %d", told, ok, done)
	}
}

// Ways: each thing inside of a trial that can't be told gives up by itself.
func TestEachPartGivesUp(t *testing.T) {
	beyond, _ := unlessGivenUp(func() api.Dyad { return row{numbers(0x1p1000), 0}.over([]api.Dyad{numberOf(0x1p1000)}) })
	for i, part := range []func(){
		func() { around(beyond) },
		func() { outputsAt(netOf(1, kind(api.KTanh)), []api.Dyad{beyond}) },
		func() { outputsAt(netOf(1, kind(api.KTanh), scale(most, most)), []api.Dyad{numberOf(1)}) },
		func() { outputsAt(netOf(2), []api.Dyad{numberOf(1)}) },
		func() { pointOf(api.Prop{C: numbers(1), G: lists(nil)}, region(0, 0), signs(0)) },
		func() { firstFinding(netOf(1), asked(lists(numbers(1, 0)), numbers(1)), api.Region{}, nil) },
		func() { firstFinding(netOf(1), asked(lists(numbers(1, 0)), numbers(-1)), api.Region{}, signs(1)) },
		func() { sure(api.Dyad{}, api.ErrBits) },
	} {
		if _, ok := unlessGivenUp(func() int { part(); return 1 }); ok {
			t.Errorf("the part %d goes on", i)
		}
	}
}

// Ways: a fault of another kind is not taken for a trial that gave up.
func TestOtherPanicsGoOn(t *testing.T) {
	for _, what := range []any{errors.New("a fault"), 7, "gaveUp", []int{1}, &gaveUp{}, struct{}{}} {
		func() {
			defer func() {
				if recover() == nil {
					t.Errorf("%v is caught", what)
				}
			}()
			unlessGivenUp(func() int { panic(what) })
		}()
	}
}
