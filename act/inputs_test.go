package act

import (
	"fmt"
	"math"
	"slices"
	"testing"

	"ambit/api"
	"ambit/model"
	"ambit/oracle"
	"ambit/samples"
)

func numbers(l ...float64) []float64 { return l }

func ids(l ...int) []int { return l }

func lists(l ...[]float64) [][]float64 { return l }

// of is a zonotope as it is written, made by no call.
func of(c []float64, ids []int, g [][]float64, r []float64) api.Zono {
	return samples.Zonotope(c, ids, g, r)
}

// point is one without columns and box.
func point(c ...float64) api.Zono { return of(c, nil, nil, make([]float64, len(c))) }

// boxed is one without columns.
func boxed(c, r []float64) api.Zono { return of(c, nil, nil, r) }

// one is of one coordinate, with one column of the Id 0, without a box.
func one(c, g float64) api.Zono { return of(numbers(c), ids(0), lists(numbers(g)), numbers(0)) }

// between is a span as it is written.
func between(lo, hi float64) api.Span { return samples.Between(lo, hi) }

// kind is a layer that has nothing but its kind.
func kind(k int) api.Layer { return api.Layer{Kind: k} }

// window is a KMax.
func window(kh, kw, sh, sw, ph, pw int) api.Layer {
	return samples.Windowed(api.KMax, kh, kw, sh, sw, ph, pw)
}

// text is what something looks like, as far as one may want to read.
func text(what any) string {
	s := fmt.Sprintf("%+v", what)
	return s[:min(len(s), 1000)]
}

func expectBend(t *testing.T, l api.Layer, s api.Span, slope float64, rest api.Span) {
	t.Helper()
	gotSlope, gotRest, ok := Bend(l, s)
	if !ok || !oracle.Same(gotSlope, slope) || !samples.SameSpan(gotRest, rest) {
		t.Errorf("Bend of %s over [%x, %x]: %x [%x, %x] %v %v, not %x [%x, %x]", text(l), s.Lo, s.Hi, gotSlope, gotRest.Lo, gotRest.Hi, gotRest.Bad, ok, slope, rest.Lo, rest.Hi)
	}
}

func expectNoBend(t *testing.T, l api.Layer, s api.Span) {
	t.Helper()
	slope, rest, ok := Bend(l, s)
	if ok || !oracle.Same(slope, 0) || !samples.SameSpan(rest, api.Span{}) {
		t.Errorf("Bend of %s over [%x, %x] %v: %x [%x, %x] %v %v, not noughts and false", text(l), s.Lo, s.Hi, s.Bad, slope, rest.Lo, rest.Hi, rest.Bad, ok)
	}
}

func expectStep(t *testing.T, z api.Zono, l api.Layer, in api.Shape, want api.Zono) {
	t.Helper()
	if got := Step(z, l, in); !samples.SameZono(got, want) {
		t.Errorf("Step of %s by %s over %v: %s, not %s", text(z), text(l), in, text(got), text(want))
	}
}

// expectBad holds Step to the bad one of n coordinates.
func expectBad(t *testing.T, z api.Zono, l api.Layer, in api.Shape, n int) {
	t.Helper()
	expectStep(t, z, l, in, samples.BadZono(n))
}

// curves are the kinds that Bend takes, bends those that Step takes.
func curves() []int { return []int{api.KRelu, api.KLeaky, api.KTanh, api.KSigmoid, api.KSquare} }

func bends() []int { return append(curves(), api.KMax) }

// noCurves are kinds that Bend takes not: a KMax, the linear ones, and what is none.
func noCurves() []int {
	return []int{api.KMax, api.KDense, api.KConv, api.KScale, api.KMean, api.KAdd, api.KTurn, 0, 13, 14, -1, -api.KRelu, 256 + api.KRelu, math.MaxInt, math.MinInt}
}

// noSlopes are what A of a KLeaky may not be.
func noSlopes() []float64 {
	return append(oracle.NoNumbers(), -oracle.Least, -0x1p-1000, -0.5, -1, -oracle.Max, 1+0x1p-52, 1.5, 2, oracle.Max)
}

// A sample is a layer that may be, and the shape ahead of it.
type sample struct {
	l  api.Layer
	in api.Shape
}

// size is how many coordinates there are ahead of the layer.
func (s sample) size() int {
	n, _ := model.Size(s.in)
	return n
}

// told is the shape that the layer tells.
func (s sample) told() api.Shape {
	out, _ := model.Out(s.l, s.in)
	return out
}

// width is how many coordinates the layer tells.
func (s sample) width() int {
	n, _ := model.Size(s.told())
	return n
}

// ofKinds is one ordinary layer of each kind that is one of some, or is none of them.
func ofKinds(kinds []int, in bool) []sample {
	var all []sample
	for _, n := range samples.Kinds() {
		l := n.Layers[len(n.Layers)-1]
		if slices.Contains(kinds, l.Kind) == in {
			all = append(all, sample{l, n.In})
		}
	}
	return all
}

// ordinary is one layer of each kind that Step takes.
func ordinary() []sample { return ofKinds(bends(), true) }

// others is one layer of each kind that Step takes not.
func others() []sample { return ofKinds(bends(), false) }

// someLayer is a layer of a kind that Step takes.
func someLayer(m *oracle.Mixer) sample {
	for {
		in := samples.Shape(1+m.Below(2), 1+m.Below(3), 1+m.Below(3))
		if l, ok := samples.LayerOf(m, bends()[m.Below(6)], in, nil); ok {
			if l.Kind == api.KLeaky && m.Below(2) == 0 {
				l.A = someSlope(m)
			}
			return sample{l, in}
		}
	}
}

// someSlope is a number from 0 to 1.
func someSlope(m *oracle.Mixer) float64 {
	return []float64{0, oracle.MinusZero(), 1, oracle.Least, 1 - 0x1p-53, 0x1p-1022, 0.5, float64(m.Word()>>11) * 0x1p-53}[m.Below(8)]
}

// someZono is a zonotope of n coordinates, every third one without a box; every other one has numbers of some size at which bent functions are bent.
func someZono(m *oracle.Mixer, n int) api.Zono {
	z := samples.MixedZono(m, n)
	if m.Below(2) == 0 {
		z = tameZono(m, n)
	}
	if m.Below(3) == 0 {
		z.R = make([]float64, n)
	}
	return z
}

// tameZono is one whose coordinates are some units wide, and may lie across 0 or beside it.
func tameZono(m *oracle.Mixer, n int) api.Zono {
	number := func(exponent int) []float64 {
		l := make([]float64, n)
		for i := range l {
			if m.Below(6) > 0 {
				l[i] = m.Number(exponent)
			}
		}
		return l
	}
	z := of(number(m.Below(5)), nil, nil, number(m.Below(3)-4))
	for i, r := range z.R {
		z.R[i] = math.Abs(r)
	}
	for id := range m.Below(4) {
		z.Ids, z.G = append(z.Ids, 3*id), append(z.G, number(m.Below(4)-2))
	}
	return z
}

// someSpan is one that may be, of numbers that are alike in something.
func someSpan(m *oracle.Mixer) api.Span {
	number := samples.MixedKind(m)
	if m.Below(3) == 0 {
		exponent := m.Below(12) - 4
		number = func() float64 { return m.Number(exponent) }
	}
	return samples.MixedSpan(m, number)
}
