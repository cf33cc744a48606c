package audit

import (
	"errors"
	"testing"

	"ambit/api"
	"ambit/oracle"
	"ambit/samples"
)

// Ways: a reader gives up by a refusal that tells the error; a fault of another kind does not pass for one.
func TestOtherPanicsGoOn(t *testing.T) {
	if e := errorOf(refusal{api.ErrSum}); e != api.ErrSum {
		t.Error(e)
	}
	for _, what := range []any{errors.New("a fault"), 7, api.ErrSum, &refusal{api.ErrSum}, struct{ e api.Errno }{api.ErrSum}} {
		func() {
			defer func() {
				if recover() == nil {
					t.Errorf("%v is taken for a refusal", what)
				}
			}()
			errorOf(what)
		}()
	}
}

// Ways: where a tree goes wrong, nothing behind is read, and no part is added.
func TestGivingUpLeavesAll(t *testing.T) {
	r := reader{b: []byte{1, 0, 9, 0, 0}}
	func() {
		defer func() {
			if e := errorOf(recover()); e != api.ErrAccount {
				t.Error(e)
			}
		}()
		r.tree(samples.Cube(1))
	}()
	if r.at != 3 || len(r.parts) != 1 {
		t.Errorf("%+v", r)
	}
}

// Ways: two regions are the same, if and only if the arrays of their levels and places are.
func TestSpotsTellRegions(t *testing.T) {
	var m oracle.Mixer
	same := 0
	for range 20000 {
		k := 1 + m.Below(3)
		a, b := samples.MixedRegion(&m, k), samples.MixedRegion(&m, k)
		if (spotOf(a) == spotOf(b)) != samples.SameRegion(a, b) {
			t.Fatalf("%v and %v", a, b)
		}
		if samples.SameRegion(a, b) {
			same++
		}
	}
	if same < 100 {
		t.Errorf("%d only", same)
	}
	// Every level and place of a symbol, and every symbol.
	seen := map[spot]int{}
	for level := range api.MaxDepth + 1 {
		for at := range 1 << level {
			seen[spotOf(region(level, at))]++
		}
	}
	if len(seen) != 511 {
		t.Errorf("%d", len(seen))
	}
	last := samples.Cube(256)
	last.Level[255], last.At[255] = 8, 255
	if spotOf(last) == spotOf(samples.Cube(256)) {
		t.Error("the last symbol is not told")
	}
}
