package rows

import (
	"math"
	"slices"
	"testing"

	"ambit/api"
	"ambit/model"
	"ambit/oracle"
)

func shape(c, h, w int) api.Shape { return api.Shape{C: c, H: h, W: w} }

// line is the shape of so many coordinates in one row.
func line(n int) api.Shape { return shape(1, 1, n) }

// windowed is a layer of a kind that goes by windows, with its rows and columns, steps and noughts; its lists are empty.
func windowed(kind, kh, kw, sh, sw, ph, pw int) api.Layer {
	l := api.Layer{Kind: kind, KH: kh, KW: kw, SH: sh, SW: sw, PH: ph, PW: pw}
	switch kind {
	case api.KConv:
		l.Out = 1
	case api.KMean:
		l.A = -0.25
	}
	return l
}

// counted are the numbers 1, 2, 3 and so on, so that each tells where it stood.
func counted(n int) []float64 {
	l := make([]float64, n)
	for i := range l {
		l[i] = float64(i + 1)
	}
	return l
}

// filled is a layer with the lists that it must have: their numbers are counted, those of B and ZB from 1001 on, imaginary parts from 2001 on.
func filled(l api.Layer, in api.Shape) api.Layer {
	w, b, z, zb, _ := model.Lists(l, in)
	l.W, l.B = counted(w), counted(b)
	for i := range l.B {
		l.B[i] += 1000
	}
	l.Z, l.ZB = nil, nil
	for i := range z {
		l.Z = append(l.Z, complex(float64(i+1), float64(2001+i)))
	}
	for i := range zb {
		l.ZB = append(l.ZB, complex(float64(1001+i), float64(3001+i)))
	}
	return l
}

// mixedNumber is a number of any size; often one whose sign is all that it has.
func mixedNumber(m *oracle.Mixer) float64 {
	switch m.Below(6) {
	case 0:
		return 0
	case 1:
		return oracle.MinusZero()
	case 2:
		return oracle.Edges()[m.Below(len(oracle.Edges()))]
	}
	return m.Number(m.Below(60) - 30)
}

func mixedNumbers(m *oracle.Mixer, n int) []float64 {
	l := make([]float64, n)
	for i := range l {
		l[i] = mixedNumber(m)
	}
	return l
}

func mixedComplex(m *oracle.Mixer, n int) []complex128 {
	l := make([]complex128, n)
	for i := range l {
		l[i] = complex(mixedNumber(m), mixedNumber(m))
	}
	return l
}

// mixedLists is a layer with lists as it must have them, of mixed numbers.
func mixedLists(m *oracle.Mixer, l api.Layer, in api.Shape) api.Layer {
	w, b, z, zb, _ := model.Lists(l, in)
	l.W, l.B, l.Z, l.ZB = mixedNumbers(m, w), mixedNumbers(m, b), mixedComplex(m, z), mixedComplex(m, zb)
	return l
}

// A sample is a layer that may be, and the shape ahead of it.
type sample struct {
	layer api.Layer
	in    api.Shape
}

// toldBy is the shape that a layer tells that may be.
func toldBy(l api.Layer, in api.Shape) api.Shape {
	out, _ := model.Out(l, in)
	return out
}

// samples are ordinary layers, one of each kind, in the order of the kinds.
func samples() []sample {
	conv := windowed(api.KConv, 2, 3, 1, 2, 1, 2)
	conv.Out = 3
	in := shape(2, 3, 4)
	all := []sample{
		{api.Layer{Kind: api.KDense, Out: 5}, in},
		{conv, in},
		{api.Layer{Kind: api.KScale}, in},
		{windowed(api.KMean, 2, 3, 1, 2, 1, 2), in},
		{api.Layer{Kind: api.KAdd, From: 3}, in},
		{api.Layer{Kind: api.KTurn, Out: 2}, in},
		{api.Layer{Kind: api.KRelu}, in},
		{api.Layer{Kind: api.KLeaky, A: 0.25}, in},
		{api.Layer{Kind: api.KTanh}, in},
		{api.Layer{Kind: api.KSigmoid}, in},
		{api.Layer{Kind: api.KSquare}, in},
		{windowed(api.KMax, 2, 3, 1, 2, 1, 2), in},
	}
	for i, s := range all {
		all[i].layer = filled(s.layer, s.in)
	}
	return all
}

// matrices are the samples that have rows.
func matrices() []sample {
	var all []sample
	for _, s := range samples() {
		if hasRows(s.layer.Kind) {
			all = append(all, s)
		}
	}
	return all
}

func hasRows(kind int) bool {
	return slices.Contains([]int{api.KDense, api.KConv, api.KScale, api.KMean, api.KTurn}, kind)
}

func hasWindows(kind int) bool {
	return slices.Contains([]int{api.KConv, api.KMean, api.KMax}, kind)
}

// noKinds are kinds that are none.
func noKinds() []int { return []int{0, 13, -1, 14, 256, math.MaxInt, math.MinInt} }

// noRows are numbers of rows that a layer of n rows has not.
func noRows(n int) []int {
	return []int{-1, n, n + 1, -n, 2 * n, 256, 257, -256, 1 << 31, 1 << 32, 1 << 62, -1 << 32, math.MaxInt, math.MinInt}
}

// someLayer is a layer that may be over some shape, its lists of mixed numbers.
func someLayer(m *oracle.Mixer) sample {
	for {
		in := shape(1+m.Below(4), 1+m.Below(7), 1+m.Below(7))
		l := api.Layer{Kind: 1 + m.Below(12)}
		switch l.Kind {
		case api.KDense, api.KTurn:
			l.Out = 1 + m.Below(4)
		case api.KConv, api.KMean, api.KMax:
			kh, kw := 1+m.Below(5), 1+m.Below(5)
			out := 1 + m.Below(3)
			l = windowed(l.Kind, kh, kw, 1+m.Below(4), 1+m.Below(4), m.Below(kh), m.Below(kw))
			if l.Kind == api.KConv {
				l.Out = out
			}
			if l.Kind == api.KMean {
				l.A = mixedNumber(m)
			}
		case api.KLeaky:
			l.A = 0.5
		}
		if _, e := model.Out(l, in); e == api.OK {
			return sample{mixedLists(m, l, in), in}
		}
	}
}

func sameNumbers(a, b []float64) bool { return slices.EqualFunc(a, b, oracle.Same) }

func expectRow(t *testing.T, l api.Layer, in api.Shape, i int, cols []int, w []float64, b float64) {
	t.Helper()
	gotCols, gotW, gotB, e := Row(l, in, i)
	if e != api.OK || !slices.Equal(gotCols, cols) || !sameNumbers(gotW, w) || !oracle.Same(gotB, b) {
		t.Errorf("Row(%+v, %v, %d): %v %v %v %v, not %v %v %v", l, in, i, gotCols, gotW, gotB, e, cols, w, b)
	}
}

func expectNoRow(t *testing.T, l api.Layer, in api.Shape, i int, e api.Errno) {
	t.Helper()
	cols, w, b, f := Row(l, in, i)
	if f != e || len(cols) != 0 || len(w) != 0 || !oracle.Same(b, 0) {
		t.Errorf("Row(%+v, %v, %d): %v %v %v beside %v, not %v alone", l, in, i, cols, w, b, f, e)
	}
}

func expectWindow(t *testing.T, l api.Layer, in api.Shape, i int, places ...int) {
	t.Helper()
	if got, e := Window(l, in, i); e != api.OK || !slices.Equal(got, places) {
		t.Errorf("Window(%+v, %v, %d): %v %v, not %v", l, in, i, got, e, places)
	}
}

func expectNoWindow(t *testing.T, l api.Layer, in api.Shape, i int, e api.Errno) {
	t.Helper()
	if got, f := Window(l, in, i); f != e || len(got) != 0 {
		t.Errorf("Window(%+v, %v, %d): %v beside %v, not %v alone", l, in, i, got, f, e)
	}
}

func expectCount(t *testing.T, l api.Layer, in api.Shape, n int, e api.Errno) {
	t.Helper()
	if got, f := Count(l, in); got != n || f != e {
		t.Errorf("Count(%+v, %v): %d %v, not %d %v", l, in, got, f, n, e)
	}
}
