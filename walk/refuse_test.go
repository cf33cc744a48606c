package walk

import (
	"math"
	"slices"
	"testing"

	"ambit/api"
	"ambit/model"
	"ambit/oracle"
	"ambit/samples"
)

// ordinary is one call of each kind that Step answers.
func ordinary() []call {
	var all []call
	for _, n := range samples.Kinds() {
		size := width(n.In)
		all = append(all, call{n.Layers[len(n.Layers)-1], n.In, slices.Repeat(spans(-1, 2), size), slices.Repeat(spans(-3, 1), size)})
	}
	return all
}

// 15.2: as many spans as the layer tells coordinates, of each kind.
func TestStepTellsEachCoordinate(t *testing.T) {
	if len(ordinary()) != len(samples.EveryKind()) {
		t.Fatalf("%d kinds", len(ordinary()))
	}
	for _, c := range ordinary() {
		got := c.answer()
		if len(got) != width(behind(c.l, c.in)) || slices.ContainsFunc(got, mayNotBe) {
			t.Errorf("the kind %d: %s", c.l.Kind, text(got))
		}
	}
}

// expectRefused holds Step to no answer for a layer that model refuses by e, whatever spans there are.
func expectRefused(t *testing.T, l api.Layer, in api.Shape, e api.Errno) {
	t.Helper()
	if f := model.Layer(l, in); f != e {
		t.Fatalf("Layer of %s over %v: %v, not %v", text(l), in, f, e)
	}
	for _, n := range []int{0, 1, 2, width(in), 256} {
		v := slices.Repeat(spans(1, 2), n)
		for _, earlier := range [][]api.Span{nil, v, bads(n)} {
			call{l, in, v, earlier}.expect(t, nil)
		}
	}
}

// 15.2: kinds that are none.
func TestStepOfNoKinds(t *testing.T) {
	for _, k := range []int{0, 13, -1, 14, 256, -api.KRelu, math.MaxInt, math.MinInt} {
		expectRefused(t, kind(k), samples.Line(2), api.ErrKind)
		expectRefused(t, api.Layer{Kind: k, Out: -1, A: math.NaN()}, api.Shape{}, api.ErrKind)
	}
}

// 15.2: fields that may not be, of every kind.
func TestStepOfFieldsThatMayNotBe(t *testing.T) {
	for _, c := range ordinary() {
		for _, change := range []func(l *api.Layer){
			func(l *api.Layer) { l.Out = -1 },
			func(l *api.Layer) { l.Out = 257 },
			func(l *api.Layer) { l.KH = 17 },
			func(l *api.Layer) { l.KW = -1 },
			func(l *api.Layer) { l.SH = math.MaxInt },
			func(l *api.Layer) { l.SW = 17 },
			func(l *api.Layer) { l.PH = 16 },
			func(l *api.Layer) { l.PW = math.MinInt },
			func(l *api.Layer) { l.From = api.MaxLayers + 1 },
			func(l *api.Layer) { l.From = -1 },
			func(l *api.Layer) { l.From = math.MaxInt },
		} {
			l := c.l
			change(&l)
			expectRefused(t, l, c.in, api.ErrField)
		}
	}
}

// 15.2: what A may not be, where a kind has one and where it has none.
func TestStepOfFactorsThatMayNotBe(t *testing.T) {
	for _, c := range ordinary() {
		l := c.l
		for _, a := range oracle.NoNumbers() {
			l.A = a
			if l.Kind == api.KMean || l.Kind == api.KLeaky {
				expectRefused(t, l, c.in, api.ErrNumber)
			} else {
				expectRefused(t, l, c.in, api.ErrField)
			}
		}
		for _, a := range numbers(-oracle.Least, -1, 1+0x1p-52, 2, oracle.Max) {
			l.A = a
			if l.Kind != api.KMean {
				expectRefused(t, l, c.in, api.ErrField)
			}
		}
		l.A = oracle.MinusZero()
		if l.Kind != api.KMean && l.Kind != api.KLeaky {
			expectRefused(t, l, c.in, api.ErrField)
		}
	}
}

// 15.2: shapes that are none, or that a layer does not go with.
func TestStepOfShapesThatMayNotBe(t *testing.T) {
	for _, c := range ordinary() {
		for _, in := range []api.Shape{{}, samples.Shape(1, 0, 1), samples.Shape(-1, 1, 1), samples.Line(257), samples.Shape(16, 16, 2), samples.Shape(1<<40, 1<<40, 1<<40)} {
			expectRefused(t, c.l, in, api.ErrShape)
		}
	}
	expectRefused(t, samples.Windowed(api.KMax, 3, 1, 1, 1, 0, 0), samples.Shape(1, 2, 5), api.ErrShape)
	expectRefused(t, samples.Turn(1), samples.Line(3), api.ErrShape)
	expectRefused(t, samples.Windowed(api.KMean, 1, 4, 1, 1, 0, 0), samples.Line(3), api.ErrShape)
}

// 15.2: lists of another length, or with something in them that is no number.
func TestStepOfListsThatMayNotBe(t *testing.T) {
	for _, c := range ordinary() {
		for _, change := range []func(l *api.Layer){
			func(l *api.Layer) { l.W = append(slices.Clone(l.W), 1) },
			func(l *api.Layer) { l.B = append(slices.Clone(l.B), 1) },
			func(l *api.Layer) { l.Z = append(slices.Clone(l.Z), 1) },
			func(l *api.Layer) { l.ZB = append(slices.Clone(l.ZB), 1) },
		} {
			l := c.l
			change(&l)
			expectRefused(t, l, c.in, api.ErrCount)
		}
		for _, none := range oracle.NoNumbers() {
			for _, l := range spoilt(c.l, none) {
				expectRefused(t, l, c.in, api.ErrNumber)
			}
		}
	}
	l := dense(1, 2, 3)
	l.W = nil
	expectRefused(t, l, samples.Line(2), api.ErrCount)
	l = dense(1, 2, 3)
	l.B = nil
	expectRefused(t, l, samples.Line(2), api.ErrCount)
}

// spoilt are copies of a layer in which the last number of a list is none: one for each list that it has, and for each part of a complex one.
func spoilt(l api.Layer, none float64) []api.Layer {
	var all []api.Layer
	for _, take := range []func(l *api.Layer) *[]float64{func(l *api.Layer) *[]float64 { return &l.W }, func(l *api.Layer) *[]float64 { return &l.B }} {
		p := l
		list := take(&p)
		if n := len(*list); n > 0 {
			*list = slices.Clone(*list)
			(*list)[n-1] = none
			all = append(all, p)
		}
	}
	for _, z := range []complex128{complex(none, 0), complex(0, none)} {
		for _, take := range []func(l *api.Layer) *[]complex128{func(l *api.Layer) *[]complex128 { return &l.Z }, func(l *api.Layer) *[]complex128 { return &l.ZB }} {
			p := l
			list := take(&p)
			if n := len(*list); n > 0 {
				*list = slices.Clone(*list)
				(*list)[n-1] = z
				all = append(all, p)
			}
		}
	}
	return all
}

// otherLengths are lengths that are not n.
func otherLengths(n int) []int {
	return slices.DeleteFunc([]int{0, 1, n - 1, n + 1, 2 * n, 256, 257, 300}, func(k int) bool { return k == n })
}

// 15.2: v of another length, nil among them; of earlier just KAdd asks for as many.
func TestStepOfOtherLengths(t *testing.T) {
	for _, c := range ordinary() {
		want := c.answer()
		for _, k := range otherLengths(len(c.v)) {
			other := slices.Repeat(spans(1, 2), k)
			call{c.l, c.in, other, c.earlier}.expect(t, nil)
			call{c.l, c.in, other, other}.expect(t, nil)
			call{c.l, c.in, bads(k), nil}.expect(t, nil)
			for _, earlier := range [][]api.Span{other, bads(k), nil, {}} {
				if c.l.Kind == api.KAdd {
					call{c.l, c.in, c.v, earlier}.expect(t, nil)
				} else {
					call{c.l, c.in, c.v, earlier}.expect(t, want)
				}
			}
		}
		call{c.l, c.in, nil, nil}.expect(t, nil)
		call{c.l, c.in, []api.Span{}, c.earlier}.expect(t, nil)
	}
}

// 15.2: From is held against nothing here but its bounds.
func TestStepLooksAtNoFrom(t *testing.T) {
	for from := range api.MaxLayers + 1 {
		call{samples.Add(from), samples.Line(2), spans(0, 1, 2, 3), spans(5, 6, 7, 8)}.expect(t, spans(5, 7, 9, 11))
	}
}

// 15.3: what model refuses is told first, with its place, whatever the spans are.
func TestEvalRefusesNetworks(t *testing.T) {
	for _, r := range samples.RefusedNets() {
		for _, v := range [][]api.Span{nil, {}, points(1), spans(1, 2, 3, 4), bads(1), bads(256), slices.Repeat(points(1), 256), samples.NoSpans()} {
			expectNoEval(t, r.Net, v, r.Err, r.At)
		}
	}
	// A layer that tells a bad span stands ahead of the one that is refused.
	expectNoEval(t, netOf(samples.Line(1), kind(api.KSquare), kind(14)), points(oracle.Max), api.ErrKind, 2)
	expectNoEval(t, netOf(samples.Line(1), samples.Relu(), dense(0, math.NaN())), bads(1), api.ErrNumber, 2)
	expectNoEval(t, netOf(samples.Line(2), samples.Relu(), dense(0, 1, 1), samples.Add(1)), spans(0, 1, 0, 1), api.ErrFrom, 3)
}

// 15.3: v of another length, nil among them, ahead of what is bad in it.
func TestEvalRefusesLengths(t *testing.T) {
	for _, n := range append([]api.Net{netOf(samples.Line(1)), netOf(samples.Line(2)), netOf(samples.Shape(16, 4, 4))}, samples.Kinds()...) {
		for _, k := range otherLengths(width(n.In)) {
			expectNoEval(t, n, slices.Repeat(spans(1, 2), k), api.ErrCount, 0)
			expectNoEval(t, n, bads(k), api.ErrCount, 0)
		}
		expectNoEval(t, n, nil, api.ErrCount, 0)
		expectNoEval(t, n, []api.Span{}, api.ErrCount, 0)
	}
}

// 15.3: where all of it is wrong, each error comes as the ones ahead of it are mended; bad spans are no error.
func TestEvalOrderOfErrors(t *testing.T) {
	n := samples.Named(netOf(api.Shape{}, kind(api.KSquare), dense(0, 1)), "a", "b")
	v := join(points(0x1p600, 1), bads(1))
	expectNoEval(t, n, v, api.ErrShape, 0)
	n.In = samples.Line(2)
	expectNoEval(t, n, v, api.ErrCount, 2)
	n.Layers[1].W = numbers(1, math.Inf(1))
	expectNoEval(t, n, v, api.ErrNumber, 2)
	n.Layers[1].W = numbers(1, 1)
	expectNoEval(t, n, v, api.ErrCount, 0)
	n.Names = n.Names[:1]
	expectNoEval(t, n, v, api.ErrCount, 0)
	expectEval(t, n, v[1:], bads(1), 0)
	expectEval(t, n, v[:2], bads(1), 1)
	expectEval(t, n, points(2, 3), points(13), -1)
}
