package shadow

import (
	"slices"
	"sync"
	"testing"

	"ambit/api"
	"ambit/oracle"
	"ambit/samples"
)

// 21.8, rule 3: a zonotope that is handed in stays, with the room behind its lists, and is not kept; corners are new memory.
func TestZonotopesStay(t *testing.T) {
	for i := range 3 {
		for j := range 3 {
			z := samples.RoomyZono()
			before := samples.WholeZono(z)
			got, far, e := Polygon(z, i, j)
			want := slices.Clone(got)
			reach, f := Reach(z, i, j, 3-4i)
			other, _, _ := Polygon(z, i, j)
			if e != api.OK || f != api.OK || len(want) < 2 {
				t.Fatalf("%v %v %v", got, e, f)
			}
			if at := samples.Sharing([][]complex128{got, other}, func(k int) complex128 { return complex(float64(k), 77) }); at >= 0 {
				t.Errorf("%d and %d: two answers share memory", i, j)
			}
			if !samples.SameZono(samples.WholeZono(z), before) {
				t.Errorf("%d and %d: what was given is changed, or a part of an answer", i, j)
			}
			again, _, _ := Polygon(z, i, j)
			samples.ScribbleZono(z)
			if !slices.Equal(again, want) {
				t.Errorf("%d and %d: %v, not %v: an answer was kept, or what was given is a part of it", i, j, again, want)
			}
			// Room behind lists tells nothing, and what was written into it neither.
			expectPolygon(t, samples.WideZono(3, 4), i, j, far, want...)
			expectReach(t, samples.WideZono(3, 4), i, j, 3-4i, reach)
		}
	}
}

// 21.8: of a point, which has no side, and of a line.
func TestFewCornersAreNew(t *testing.T) {
	for _, z := range []api.Zono{of(5+7i, 0), of(5+7i, 0, 1), of(5+7i, 1+1i)} {
		before := samples.WholeZono(z)
		p, far, _ := Polygon(z, 0, 1)
		want := slices.Clone(p)
		samples.Scribble(p, 77i)
		if !samples.SameZono(samples.WholeZono(z), before) {
			t.Errorf("%s was changed", text(z))
		}
		expectPolygon(t, z, 0, 1, far, want...)
	}
}

// 21.8: lists of the zonotope that share memory are looked at one by one.
func TestSharedLists(t *testing.T) {
	l := numbers(1, 2)
	expectPolygon(t, samples.Zonotope(l, []int{0, 1}, [][]float64{l, l}, l), 0, 1, 0, -2-4i, 0-4i, 4+4i, 4+8i, 2+8i, -2)
	if !samples.SameNumbers(l, numbers(1, 2)) {
		t.Errorf("%v", l)
	}
}

// 21.8, rule 3: corners that are handed in stay, with the room behind them, which tells nothing.
func TestCornersStay(t *testing.T) {
	minus := oracle.MinusZero()
	p := samples.Roomy(points(complex(minus, 0), complex(2, minus), 2+2i, 2i), 100+50i)
	before := slices.Clone(samples.Whole(p))
	expectArea(t, p, 4)
	if !slices.EqualFunc(samples.Whole(p), before, samples.SameComplex) {
		t.Errorf("%v, not %v", samples.Whole(p), before)
	}
	for n := range 4 {
		want, _ := wantArea(p[:n])
		expectArea(t, p[:n], want)
		expectArea(t, p[:n:n], want)
	}
}

// 21.8: calls side by side, of the same zonotope and the same corners, disturb nothing.
func TestCallsSideBySide(t *testing.T) {
	z, p := of(0, 0, steps()...), points(0, 1, 1i)
	want, far, _ := Polygon(z, 0, 1)
	reach, _ := Reach(z, 0, 1, 3-4i)
	var busy sync.WaitGroup
	for range 8 {
		busy.Go(func() {
			for range 50 {
				expectPolygon(t, z, 0, 1, far, want...)
				expectReach(t, z, 0, 1, 3-4i, reach)
				expectArea(t, p, 0.5)
			}
		})
	}
	busy.Wait()
}

// Rule 1: nil and empty lists mean the same.
func TestEmptyIsAsNil(t *testing.T) {
	z := of(5+7i, 1)
	z.Ids, z.G = []int{}, [][]float64{}
	expectPolygon(t, z, 0, 1, 0, 4+7i, 6+7i)
	expectPolygon(t, of(5+7i, 1), 0, 1, 0, 4+7i, 6+7i)
	expectReach(t, z, 0, 1, 1, 6)
	expectArea(t, nil, 0)
	expectArea(t, []complex128{}, 0)
}
