package lin

import (
	"fmt"
	"slices"
	"testing"

	"ambit/api"
	"ambit/model"
	"ambit/oracle"
	"ambit/samples"
)

func numbers(l ...float64) []float64 { return l }

func ids(l ...int) []int { return l }

func lists(l ...[]float64) [][]float64 { return l }

// of is a zonotope as it is written, made by no call.
func of(c []float64, ids []int, g [][]float64, r []float64) api.Zono {
	return samples.Zonotope(c, ids, g, r)
}

// point is one without columns and box.
func point(c ...float64) api.Zono { return of(c, nil, nil, make([]float64, len(c))) }

// about is one about 0, of these columns, without a box.
func about(n int, ids []int, g ...[]float64) api.Zono {
	return of(make([]float64, n), ids, g, make([]float64, n))
}

// first is the one of the chapter's examples of steps.
func first() api.Zono {
	return of(numbers(0.5, 0.25), ids(0), lists(numbers(1, 0)), numbers(0, 0))
}

// dense is a KDense with these numbers.
func dense(w, b []float64) api.Layer {
	return api.Layer{Kind: api.KDense, Out: len(b), W: w, B: b}
}

// scale is a KScale with these numbers.
func scale(w, b []float64) api.Layer { return api.Layer{Kind: api.KScale, W: w, B: b} }

// mean is a KMean with a window and steps.
func mean(a float64, kh, kw, sh, sw, ph, pw int) api.Layer {
	l := samples.Windowed(api.KMean, kh, kw, sh, sw, ph, pw)
	l.A = a
	return l
}

// turn is a KTurn with these numbers.
func turn(z, zb []complex128) api.Layer {
	return api.Layer{Kind: api.KTurn, Out: len(zb), Z: z, ZB: zb}
}

// text is what something looks like, as far as one may want to read.
func text(what any) string {
	s := fmt.Sprintf("%+v", what)
	return s[:min(len(s), 1000)]
}

func expectImage(t *testing.T, z api.Zono, w []float64, b float64, c float64, g []float64, r float64) {
	t.Helper()
	gotC, gotG, gotR, ok := Image(z, w, b)
	if !ok || !oracle.Same(gotC, c) || !samples.SameNumbers(gotG, g) || !oracle.Same(gotR, r) {
		t.Errorf("Image of %s by %v and %v: %x %x %x %v, not %x %x %x", text(z), w, b, gotC, gotG, gotR, ok, c, g, r)
	}
}

func expectNoImage(t *testing.T, z api.Zono, w []float64, b float64) {
	t.Helper()
	c, g, r, ok := Image(z, w, b)
	if ok || !oracle.Same(c, 0) || len(g) != 0 || !oracle.Same(r, 0) {
		t.Errorf("Image of %s by %v and %v: %x %x %x %v, not noughts and false", text(z), w, b, c, g, r, ok)
	}
}

// crews are numbers of workers: the least, the greatest, and some between.
func crews() []int { return []int{1, 2, 3, 16} }

// expectStep holds Step to an answer, whatever crew there is.
func expectStep(t *testing.T, z api.Zono, l api.Layer, in api.Shape, want api.Zono) {
	t.Helper()
	for _, workers := range crews() {
		got, e := Step(z, l, in, workers)
		if e != api.OK || !samples.SameZono(got, want) {
			t.Errorf("Step of %s by %s over %v, of %d: %s %v, not %s", text(z), text(l), in, workers, text(got), e, text(want))
		}
	}
}

func expectNoStep(t *testing.T, z api.Zono, l api.Layer, in api.Shape, workers int, e api.Errno) {
	t.Helper()
	got, f := Step(z, l, in, workers)
	if f != e || !samples.SameZono(got, api.Zono{}) {
		t.Errorf("Step of %s by %s over %v, of %d: %s beside %v, not %v alone", text(z), text(l), in, workers, text(got), f, e)
	}
}

// A sample is a layer that may be, and the shape ahead of it.
type sample struct {
	l  api.Layer
	in api.Shape
}

// size is how many coordinates there are ahead of the layer.
func (s sample) size() int {
	n, _ := model.Size(s.in)
	return n
}

// told is the shape that the layer tells.
func (s sample) told() api.Shape {
	out, _ := model.Out(s.l, s.in)
	return out
}

// rows is how many coordinates the layer tells.
func (s sample) rows() int {
	n, _ := model.Size(s.told())
	return n
}

// matrices are the kinds that Step takes.
func matrices() []int {
	return []int{api.KDense, api.KConv, api.KScale, api.KMean, api.KTurn}
}

// ofKinds is one ordinary layer of each kind that is one of some, or is none of them.
func ofKinds(kinds []int, one bool) []sample {
	var all []sample
	for _, n := range samples.Kinds() {
		l := n.Layers[len(n.Layers)-1]
		if slices.Contains(kinds, l.Kind) == one {
			all = append(all, sample{l, n.In})
		}
	}
	return all
}

// ordinary is one layer of each kind that Step takes.
func ordinary() []sample { return ofKinds(matrices(), true) }

// others is one layer of each kind that Step takes not.
func others() []sample { return ofKinds(matrices(), false) }

// someLayer is a layer of a kind that Step takes, of numbers that are alike in something.
func someLayer(m *oracle.Mixer) sample {
	for {
		in := samples.Shape(1+m.Below(2), 1+m.Below(3), 1+m.Below(3))
		if l, ok := samples.LayerOf(m, matrices()[m.Below(5)], in, samples.MixedKind(m)); ok {
			return sample{l, in}
		}
	}
}

// someZono is a zonotope of n coordinates, every third one without a box.
func someZono(m *oracle.Mixer, n int) api.Zono {
	z := samples.MixedZono(m, n)
	if m.Below(3) == 0 {
		z.R = make([]float64, n)
	}
	return z
}

// wholes makes small whole numbers, also 0, with either sign.
func wholes(m *oracle.Mixer) func() float64 {
	return func() float64 { return float64(m.Below(9) - 4) }
}

// listOf are n numbers that are made one by one.
func listOf(n int, number func() float64) []float64 {
	l := make([]float64, n)
	for i := range l {
		l[i] = number()
	}
	return l
}

// someDense is one of some rows over n coordinates.
func someDense(m *oracle.Mixer, out, n int) api.Layer {
	number := samples.MixedKind(m)
	return dense(listOf(out*n, number), listOf(out, number))
}
