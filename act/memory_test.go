package act

import (
	"slices"
	"testing"

	"ambit/api"
	"ambit/samples"
)

// alone is a network of one layer, so that samples can look at it.
func alone(l api.Layer) api.Net { return api.Net{Layers: []api.Layer{l}} }

// gentle is z with columns and boxes so small that every kind has numbers for all of it, and keeps columns.
func gentle(z api.Zono) api.Zono {
	for i := range z.C {
		z.C[i] = float64(i + 1)
		z.R[i] = 0x1p-10
		for k, g := range z.G {
			g[i] = float64(k+1) * 0x1p-8
		}
	}
	return z
}

// 13.6: what is handed in stays, with the room behind it; whoever writes into an answer, or into what was handed in, changes nothing of the other.
func TestArgumentsStay(t *testing.T) {
	for _, s := range ordinary() {
		z, l := gentle(samples.RoomyWideZono(s.size(), 4)), samples.RoomyLayer(s.l)
		before, layer := samples.WholeZono(z), samples.WholeNet(alone(l))
		got := Step(z, l, s.in)
		if got.Bad || len(got.Ids) != 4 {
			t.Fatalf("%s", text(got))
		}
		want := samples.WholeZono(got)
		samples.ScribbleZono(got)
		if !samples.SameZono(samples.WholeZono(z), before) || !samples.SameNet(samples.WholeNet(alone(l)), layer) {
			t.Errorf("the kind %d: what was given is changed, or a part of the answer", l.Kind)
		}
		again := Step(z, l, s.in)
		samples.ScribbleZono(z)
		samples.Scribble(l.W, -5)
		samples.Scribble(l.B, -6)
		if !samples.SameZono(samples.WholeZono(again), want) {
			t.Errorf("the kind %d: what was given is kept, or an answer was", l.Kind)
		}
	}
}

// 13.6: of Bend, too, and where there is nothing.
func TestArgumentsOfBendStay(t *testing.T) {
	for _, k := range append(curves(), noCurves()...) {
		l := samples.RoomyLayer(api.Layer{Kind: k, A: 0.5, W: numbers(1, 2), B: numbers(3), Z: []complex128{1i}, ZB: []complex128{2}})
		before := samples.WholeNet(alone(l))
		Bend(l, between(-1, 2))
		Step(samples.WideZono(2, 1), l, samples.Line(2))
		if !samples.SameNet(samples.WholeNet(alone(l)), before) {
			t.Errorf("the kind %d: what was given is changed", k)
		}
	}
	for _, s := range append(ordinary(), others()...) {
		z := samples.RoomyWideZono(s.size(), 3)
		z.C[0], z.R[0] = 0x1p1023, 0x1p1023
		before := samples.WholeZono(z)
		expectBad(t, z, s.l, s.in, s.width())
		if !samples.SameZono(samples.WholeZono(z), before) {
			t.Errorf("the kind %d: what was given is changed", s.l.Kind)
		}
	}
}

// 13.6: no two lists of one answer share any memory, even if those that were handed in do.
func TestListsShareNothing(t *testing.T) {
	l := numbers(1, 2, 3, 4)
	z := of(numbers(50, 60, 70, 80), ids(0, 1, 2), lists(l, l, l), l)
	for _, layer := range []api.Layer{samples.Relu(), samples.Leaky(0.5), kind(api.KSquare), window(1, 1, 1, 1, 0, 0), kind(api.KTanh), kind(api.KSigmoid)} {
		// The functions that rise would be flat so far off.
		if layer.Kind == api.KTanh || layer.Kind == api.KSigmoid {
			z.C = numbers(1, 2, 3, 4)
		}
		y := Step(z, layer, samples.Shape(4, 1, 1))
		if y.Bad || len(y.Ids) != 3 {
			t.Fatalf("%s", text(y))
		}
		all := append(slices.Clone(samples.Whole(y.G)), y.C, y.R)
		for i, a := range all {
			samples.Scribble(a, float64(i))
		}
		for i, a := range all {
			if slices.ContainsFunc(samples.Whole(a), func(x float64) bool { return x != float64(i) }) {
				t.Errorf("the kind %d: the list %d shares memory", layer.Kind, i)
			}
		}
		samples.Scribble(y.Ids, 9)
	}
	if !samples.SameNumbers(l, numbers(1, 2, 3, 4)) || !slices.Equal(z.Ids, ids(0, 1, 2)) {
		t.Errorf("what was handed in is now %v and %v", l, z.Ids)
	}
}

// 13.6: room behind lists tells nothing.
func TestRoomTurnsNothing(t *testing.T) {
	for _, s := range ordinary() {
		want := Step(gentle(samples.WideZono(s.size(), 4)), s.l, s.in)
		expectStep(t, gentle(samples.RoomyWideZono(s.size(), 4)), samples.RoomyLayer(s.l), s.in, want)
	}
}

// Rule 1: nil and an empty list mean the same.
func TestEmptyListsAreNil(t *testing.T) {
	z := of(numbers(1, 2), ids(), lists(), numbers(0, 0))
	for _, l := range []api.Layer{samples.Relu(), window(1, 1, 1, 1, 0, 0)} {
		l.W, l.B, l.Z, l.ZB = numbers(), numbers(), []complex128{}, []complex128{}
		expectStep(t, z, l, samples.Line(2), point(1, 2))
		expectStep(t, point(1, 2), l, samples.Line(2), point(1, 2))
	}
	expectBad(t, api.Zono{N: 2, Ids: ids(), G: lists()}, samples.Relu(), samples.Line(2), 2)
}
