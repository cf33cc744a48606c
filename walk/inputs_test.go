package walk

import (
	"fmt"
	"slices"
	"testing"

	"ambit/api"
	"ambit/model"
	"ambit/oracle"
	"ambit/samples"
)

func numbers(l ...float64) []float64 { return l }

// spans are written by their ends, one behind the other.
func spans(ends ...float64) []api.Span {
	var all []api.Span
	for i := 0; i < len(ends); i += 2 {
		all = append(all, samples.Between(ends[i], ends[i+1]))
	}
	return all
}

// points are spans from a number to itself, made by no call.
func points(l ...float64) []api.Span {
	var all []api.Span
	for _, a := range l {
		all = append(all, samples.Between(a, a))
	}
	return all
}

// bads are n spans that are bad, in their one form.
func bads(n int) []api.Span { return slices.Repeat([]api.Span{samples.BadSpan()}, n) }

func join(lists ...[]api.Span) []api.Span { return slices.Concat(lists...) }

// with is a copy of a list that has s at a place.
func with(l []api.Span, place int, s api.Span) []api.Span {
	l = slices.Clone(l)
	l[place] = s
	return l
}

// kind is a layer that has nothing but its kind.
func kind(k int) api.Layer { return api.Layer{Kind: k} }

// dense is a KDense of one row.
func dense(b float64, w ...float64) api.Layer {
	return api.Layer{Kind: api.KDense, Out: 1, W: w, B: numbers(b)}
}

// scale is a KScale with these numbers.
func scale(w, b []float64) api.Layer { return api.Layer{Kind: api.KScale, W: w, B: b} }

// mean is a KMean whose windows are of one row.
func mean(a float64, kw, sw, pw int) api.Layer {
	l := samples.Windowed(api.KMean, 1, kw, 1, sw, 0, pw)
	l.A = a
	return l
}

// filter is a KConv of one filter, whose windows are of one row.
func filter(b float64, sw, pw int, w ...float64) api.Layer {
	l := samples.Windowed(api.KConv, 1, len(w), 1, sw, 0, pw)
	l.Out, l.W, l.B = 1, w, numbers(b)
	return l
}

// turn is a KTurn with these numbers.
func turn(z, zb []complex128) api.Layer {
	return api.Layer{Kind: api.KTurn, Out: len(zb), Z: z, ZB: zb}
}

// pool is a KMax whose windows are of one row.
func pool(kw, sw, pw int) api.Layer { return samples.Windowed(api.KMax, 1, kw, 1, sw, 0, pw) }

// netOf is a network of these layers.
func netOf(in api.Shape, layers ...api.Layer) api.Net { return api.Net{In: in, Layers: layers} }

// width is how many coordinates a shape has that may be.
func width(in api.Shape) int {
	n, _ := model.Size(in)
	return n
}

// behind is the shape that a layer tells that may be.
func behind(l api.Layer, in api.Shape) api.Shape {
	out, _ := model.Out(l, in)
	return out
}

// text is what something looks like, as far as one may want to read.
func text(what any) string {
	s := fmt.Sprintf("%+v", what)
	return s[:min(len(s), 300)]
}

// A call is what Step is given.
type call struct {
	l          api.Layer
	in         api.Shape
	v, earlier []api.Span
}

func (c call) answer() []api.Span { return Step(c.l, c.in, c.v, c.earlier) }

// expect holds Step to an answer.
func (c call) expect(t *testing.T, want []api.Span) {
	t.Helper()
	if got := c.answer(); !samples.SameSpans(got, want) {
		t.Errorf("Step of %s over %v, of %s and %s: %s, not %s", text(c.l), c.in, text(c.v), text(c.earlier), text(got), text(want))
	}
}

// expectStep holds the step of a layer that is no KAdd to an answer, whatever earlier there is, and a network of it alone to the same.
func expectStep(t *testing.T, l api.Layer, in api.Shape, v, want []api.Span) {
	t.Helper()
	for _, earlier := range [][]api.Span{nil, {}, points(7), samples.NoSpans(), bads(len(v)), v} {
		call{l, in, v, earlier}.expect(t, want)
	}
	at := -1
	switch {
	case slices.ContainsFunc(v, mayNotBe):
		at = 0
	case slices.Contains(want, samples.BadSpan()):
		at = 1
	}
	expectEval(t, netOf(in, l), v, want, at)
}

// mayNotBe tells whether a span is none that may be, by the words of chapter 13.
func mayNotBe(s api.Span) bool { return s.Bad || !isNumber(s.Lo) || !isNumber(s.Hi) || s.Lo > s.Hi }

func isNumber(a float64) bool { return a-a == 0 }

// expectSum holds the step of a KAdd to an answer, whatever From it has: spans are added in either order.
func expectSum(t *testing.T, in api.Shape, v, earlier, want []api.Span) {
	t.Helper()
	for _, from := range []int{0, 1, 2, api.MaxLayers} {
		call{samples.Add(from), in, v, earlier}.expect(t, want)
		call{samples.Add(from), in, earlier, v}.expect(t, want)
	}
}

// expectEval holds Eval to spans and the first output that has a bad one.
func expectEval(t *testing.T, n api.Net, v, want []api.Span, at int) {
	t.Helper()
	expectEvalOr(t, n, v, want, api.OK, at)
}

// expectNoEval holds Eval to an error and its place alone.
func expectNoEval(t *testing.T, n api.Net, v []api.Span, e api.Errno, at int) {
	t.Helper()
	expectEvalOr(t, n, v, nil, e, at)
}

func expectEvalOr(t *testing.T, n api.Net, v, want []api.Span, e api.Errno, at int) {
	t.Helper()
	if got, f, place := Eval(n, v); f != e || place != at || !samples.SameSpans(got, want) {
		t.Errorf("Eval(%s, %s): %s %v at %d, not %s %v at %d", text(n), text(v), text(got), f, place, text(want), e, at)
	}
}

// someNumbers makes numbers that are alike in something; every other time they are neither great nor small.
func someNumbers(m *oracle.Mixer) func() float64 {
	if m.Below(2) == 0 {
		return samples.MixedKind(m)
	}
	exponent := m.Below(8) - 4
	return func() float64 { return m.Number(exponent) }
}

// someSpans are n spans of numbers that are alike in something.
func someSpans(m *oracle.Mixer, n int) []api.Span { return spansOf(m, n, someNumbers(m)) }

// spansOf are n spans that may be, of numbers that are made one by one, but now and then one that may not; every sixth time all others are points.
func spansOf(m *oracle.Mixer, n int, number func() float64) []api.Span {
	narrow := m.Below(6) == 0
	var all []api.Span
	for range n {
		s := samples.MixedSpan(m, number)
		if narrow {
			s.Hi = s.Lo
		}
		if m.Below(25) == 0 {
			s = noSpan(m)
		}
		all = append(all, s)
	}
	return all
}

func noSpan(m *oracle.Mixer) api.Span {
	all := samples.NoSpans()
	return all[m.Below(len(all))]
}

// someCall is one with a layer of some kinds that may be, and as many spans as it asks for; every third time all of its numbers are alike in something.
func someCall(m *oracle.Mixer, kinds []int) call {
	for {
		in, number := samples.Shape(1+m.Below(2), 1+m.Below(3), 1+m.Below(3)), someNumbers(m)
		l, ok := samples.LayerOf(m, kinds[m.Below(len(kinds))], in, number)
		if !ok {
			continue
		}
		n := width(in)
		if m.Below(3) == 0 {
			return call{l, in, spansOf(m, n, number), spansOf(m, n, number)}
		}
		return call{l, in, someSpans(m, n), someSpans(m, n)}
	}
}
