package lin

import (
	"slices"
	"testing"

	"ambit/api"
	"ambit/samples"
)

// alone is a network of one layer, so that samples can look at it.
func alone(l api.Layer) api.Net { return api.Net{Layers: []api.Layer{l}} }

// scribbleLayer writes all over a layer's lists, behind their ends too.
func scribbleLayer(l api.Layer) {
	samples.Scribble(l.W, -5)
	samples.Scribble(l.B, -6)
	samples.Scribble(l.Z, -7i)
	samples.Scribble(l.ZB, -8i)
}

// 12.6: what is handed in stays, with the room behind it; whoever writes into an answer, or into what was handed in, changes nothing of the other.
func TestArgumentsOfStepStay(t *testing.T) {
	for _, s := range ordinary() {
		for _, workers := range crews() {
			z, l := samples.RoomyWideZono(s.size(), 4), samples.RoomyLayer(s.l)
			before, layer := samples.WholeZono(z), samples.WholeNet(alone(l))
			got, _ := Step(z, l, s.in, workers)
			if got.Bad || len(got.Ids) != 4 {
				t.Fatalf("%s", text(got))
			}
			want := samples.WholeZono(got)
			samples.ScribbleZono(got)
			if !samples.SameZono(samples.WholeZono(z), before) || !samples.SameNet(samples.WholeNet(alone(l)), layer) {
				t.Errorf("the kind %d by %d: what was given is changed, or a part of the answer", l.Kind, workers)
			}
			again, _ := Step(z, l, s.in, workers)
			samples.ScribbleZono(z)
			scribbleLayer(l)
			if !samples.SameZono(samples.WholeZono(again), want) {
				t.Errorf("the kind %d by %d: what was given is kept, or an answer was", l.Kind, workers)
			}
		}
	}
}

// 12.6: of Image too.
func TestArgumentsOfImageStay(t *testing.T) {
	z, w := samples.RoomyZono(), samples.Roomy(numbers(1, -2, 0.5), 9)
	before, weights := samples.WholeZono(z), slices.Clone(samples.Whole(w))
	c, g, r, ok := Image(z, w, 3)
	if !ok || len(g) != 4 {
		t.Fatalf("%v %v %v %v", c, g, r, ok)
	}
	want := slices.Clone(g)
	samples.Scribble(g, 77)
	if !samples.SameZono(samples.WholeZono(z), before) || !samples.SameNumbers(samples.Whole(w), weights) {
		t.Error("what was given is changed, or a part of the answer")
	}
	_, again, _, _ := Image(z, w, 3)
	samples.ScribbleZono(z)
	samples.Scribble(w, 78)
	if !samples.SameNumbers(again, want) {
		t.Errorf("%v, not %v: what was given is kept, or an answer was", again, want)
	}
}

// 12.6: no two lists of one answer share any memory, even if those that were handed in do.
func TestListsShareNothing(t *testing.T) {
	l := numbers(1, 2, 3, 4)
	z := of(l, ids(0, 1, 2), lists(l, l, l), l)
	for _, layer := range []api.Layer{scale(samples.Ones(4), l), dense(slices.Repeat(l, 4), l), mean(1, 1, 1, 1, 1, 0, 0)} {
		for _, workers := range crews() {
			y, e := Step(z, layer, samples.Shape(4, 1, 1), workers)
			if y.Bad || len(y.Ids) != 3 || e != api.OK {
				t.Fatalf("%s %v", text(y), e)
			}
			all := append(slices.Clone(samples.Whole(y.G)), y.C, y.R)
			for i, a := range all {
				samples.Scribble(a, float64(i))
			}
			for i, a := range all {
				if slices.ContainsFunc(samples.Whole(a), func(x float64) bool { return x != float64(i) }) {
					t.Errorf("the kind %d by %d: the list %d shares memory", layer.Kind, workers, i)
				}
			}
		}
	}
	if !samples.SameNumbers(l, numbers(1, 2, 3, 4)) {
		t.Errorf("what was handed in is now %v", l)
	}
}

// 12.6: room behind lists tells nothing.
func TestRoomTurnsNothing(t *testing.T) {
	for _, s := range ordinary() {
		want, _ := Step(samples.WideZono(s.size(), 4), s.l, s.in, 1)
		expectStep(t, samples.RoomyWideZono(s.size(), 4), samples.RoomyLayer(s.l), s.in, want)
	}
}

// Rule 1: nil and an empty list mean the same.
func TestEmptyListsAreNil(t *testing.T) {
	z := of(numbers(1, 2), ids(), lists(), numbers(0, 0))
	l := dense(numbers(1, 1), numbers(0))
	l.Z, l.ZB = []complex128{}, []complex128{}
	expectStep(t, z, l, samples.Line(2), point(3))
	z.Ids, z.G = nil, nil
	expectStep(t, z, l, samples.Line(2), point(3))
	k := turn([]complex128{1i}, []complex128{0})
	k.W, k.B = numbers(), numbers()
	expectStep(t, z, k, samples.Line(2), point(-2, 1))
	a := mean(2, 1, 1, 1, 1, 0, 0)
	a.W, a.B, a.Z, a.ZB = numbers(), numbers(), []complex128{}, []complex128{}
	expectStep(t, z, a, samples.Line(2), point(2, 4))
}
