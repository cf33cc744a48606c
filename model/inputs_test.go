package model

import (
	"math"
	"testing"

	"ambit/api"
	"ambit/oracle"
)

func shape(c, h, w int) api.Shape { return api.Shape{C: c, H: h, W: w} }

// line is the shape of so many coordinates in one row.
func line(n int) api.Shape { return shape(1, 1, n) }

// ones are n numbers, all of them 1.
func ones(n int) []float64 {
	l := make([]float64, n)
	for i := range l {
		l[i] = 1
	}
	return l
}

func complexOnes(n int) []complex128 {
	l := make([]complex128, n)
	for i := range l {
		l[i] = complex(1, -1)
	}
	return l
}

func dense(out, n int) api.Layer {
	return api.Layer{Kind: api.KDense, Out: out, W: ones(out * n), B: ones(out)}
}

// window is a layer of a kind that goes by windows, with its rows and columns, steps and noughts; its lists are empty.
func window(kind, kh, kw, sh, sw, ph, pw int) api.Layer {
	l := api.Layer{Kind: kind, KH: kh, KW: kw, SH: sh, SW: sw, PH: ph, PW: pw}
	if kind == api.KConv {
		l.Out = 1
	}
	return l
}

func add(from int) api.Layer { return api.Layer{Kind: api.KAdd, From: from} }

func relu() api.Layer { return api.Layer{Kind: api.KRelu} }

func turn(out, n int) api.Layer {
	return api.Layer{Kind: api.KTurn, Out: out, Z: complexOnes(out * n / 2), ZB: complexOnes(out)}
}

// A sample is a layer that may be, and the shape ahead of it.
type sample struct {
	layer api.Layer
	in    api.Shape
}

// samples are ordinary layers, one of each kind, in the order of the kinds.
func samples() []sample {
	conv := window(api.KConv, 2, 3, 1, 2, 1, 2)
	conv.Out, conv.W, conv.B = 3, ones(3*2*2*3), ones(3)
	mean := window(api.KMean, 2, 3, 1, 2, 1, 2)
	mean.A = -0.25
	in := shape(2, 3, 4)
	return []sample{
		{dense(5, 24), in},
		{conv, in},
		{api.Layer{Kind: api.KScale, W: ones(2), B: ones(2)}, in},
		{mean, in},
		{add(3), in},
		{turn(2, 24), in},
		{relu(), in},
		{api.Layer{Kind: api.KLeaky, A: 0.25}, in},
		{api.Layer{Kind: api.KTanh}, in},
		{api.Layer{Kind: api.KSigmoid}, in},
		{api.Layer{Kind: api.KSquare}, in},
		{window(api.KMax, 2, 3, 1, 2, 1, 2), in},
	}
}

// noKinds are kinds that are none.
func noKinds() []int { return []int{0, 13, -1, 14, 256, math.MaxInt, math.MinInt} }

// A field is one of a layer's whole numbers: how the document calls it, and where it stands.
type field struct {
	name string
	of   func(*api.Layer) *int
}

// fields are all of them, in the document's order.
func fields() []field {
	return []field{
		{"Out", func(l *api.Layer) *int { return &l.Out }},
		{"KH", func(l *api.Layer) *int { return &l.KH }},
		{"KW", func(l *api.Layer) *int { return &l.KW }},
		{"SH", func(l *api.Layer) *int { return &l.SH }},
		{"SW", func(l *api.Layer) *int { return &l.SW }},
		{"PH", func(l *api.Layer) *int { return &l.PH }},
		{"PW", func(l *api.Layer) *int { return &l.PW }},
		{"From", func(l *api.Layer) *int { return &l.From }},
	}
}

// hugeNumbers are whole numbers whose sums and products leave an int.
func hugeNumbers() []int {
	return []int{math.MaxInt, math.MinInt, math.MaxInt - 1, math.MinInt + 1, 1 << 62, -1 << 62, 1 << 40, -1 << 40, 1 << 32, 1 << 31, 1<<32 + 1, 3037000500, math.MaxInt32, math.MinInt32}
}

// mixed is a whole number that is often at an edge of something.
func mixed(m *oracle.Mixer) int {
	edges := []int{0, 1, 2, 15, 16, 17, 63, 64, 65, 127, 128, 129, 255, 256, 257, -1}
	switch m.Below(16) {
	case 0:
		return hugeNumbers()[m.Below(len(hugeNumbers()))]
	case 1, 2:
		return edges[m.Below(len(edges))]
	}
	return m.Below(6)
}

func expectShape(t *testing.T, l api.Layer, in, want api.Shape, e api.Errno) {
	t.Helper()
	if got, f := Out(l, in); got != want || f != e {
		t.Errorf("Out(%+v, %v): %v %v, not %v %v", l, in, got, f, want, e)
	}
}

func expectLayer(t *testing.T, l api.Layer, in api.Shape, e api.Errno) {
	t.Helper()
	if f := Layer(l, in); f != e {
		t.Errorf("Layer(%+v, %v): %v, not %v", l, in, f, e)
	}
}

// expectNet holds Check and Shapes to what they must tell beside each other.
func expectNet(t *testing.T, n api.Net, e api.Errno, at int) {
	t.Helper()
	f, place := Check(n)
	if f != e || place != at {
		t.Errorf("Check of %d layers and %q over %v: %v at %d, not %v at %d", len(n.Layers), n.Names, n.In, f, place, e, at)
	}
	shapes, g, place := Shapes(n)
	if g != e || place != at {
		t.Errorf("Shapes of %d layers and %q over %v: %v at %d, not %v at %d", len(n.Layers), n.Names, n.In, g, place, e, at)
	}
	want := 0
	if e == api.OK {
		want = len(n.Layers) + 1
	}
	if len(shapes) != want {
		t.Errorf("Shapes of %d layers: %d beside %v", len(n.Layers), len(shapes), g)
	}
}

func expectProp(t *testing.T, p api.Prop, in, out int, e api.Errno, at int) {
	t.Helper()
	if f, place := CheckProp(p, in, out); f != e || place != at {
		t.Errorf("CheckProp of %d columns, the target %d, %d claims and the budgets %d %d %d to %d and %d coordinates: %v at %d, not %v at %d", len(p.G), p.Target, len(p.Claims), p.K, p.Depth, p.Looks, in, out, f, place, e, at)
	}
}
