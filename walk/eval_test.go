package walk

import (
	"slices"
	"testing"

	"ambit/api"
	"ambit/elem"
	"ambit/oracle"
	"ambit/samples"
)

// 15.3: no layers: v's, in the one form: a bad one as Bad and noughts, -0 as +0.
func TestEvalOfNoLayers(t *testing.T) {
	minus := oracle.MinusZero()
	expectEval(t, netOf(samples.Line(4)), spans(1, 2, minus, minus, minus, 0, -1, minus), spans(1, 2, 0, 0, 0, 0, -1, 0), -1)
	expectEval(t, samples.Named(netOf(samples.Line(2)), "a", "b"), spans(-oracle.Max, oracle.Max, oracle.Least, oracle.Least), spans(-oracle.Max, oracle.Max, oracle.Least, oracle.Least), -1)
	expectEval(t, api.Net{In: samples.Line(1), Layers: []api.Layer{}, Names: []string{}}, spans(0, minus), points(0), -1)
	for _, none := range samples.NoSpans() {
		expectEval(t, netOf(samples.Line(1)), []api.Span{none}, bads(1), 0)
		expectEval(t, netOf(samples.Line(3)), []api.Span{samples.Between(minus, 2), none, samples.Between(3, 3)}, join(spans(0, 2), bads(1), points(3)), 0)
	}
	all := slices.Repeat(spans(-1, minus), 256)
	expectEval(t, netOf(samples.Shape(1, 16, 16)), all, slices.Repeat(spans(-1, 0), 256), -1)
}

// 15.3: layers one behind the other, of each kind; what each of them tells stands beside it.
func TestEvalOfSeveralLayers(t *testing.T) {
	v := spans(-1, 2, 3, 4)
	quarter := samples.Windowed(api.KMean, 1, 1, 1, 1, 0, 0)
	shift := samples.Windowed(api.KConv, 1, 1, 1, 1, 0, 0)
	shift.W, shift.B = numbers(1, 0, 0, 0, 0, 1, 0, 1), numbers(0.5, -4)
	var layers []api.Layer
	for _, c := range []struct {
		l    api.Layer
		want []api.Span
	}{
		{api.Layer{Kind: api.KDense, Out: 4, W: numbers(1, 0, 0, 1, 1, 1, -1, 1), B: numbers(0, 0, 0, 1)}, spans(-1, 2, 3, 4, 2, 6, 2, 6)},
		{turn([]complex128{1, 0, 0, 1i}, []complex128{0, 1}), spans(-1, 2, 3, 4, -5, -1, 2, 6)},
		{samples.Leaky(0.5), spans(-0.5, 2, 3, 4, -2.5, -0.5, 2, 6)},
		{samples.Add(2), spans(-1.5, 4, 6, 8, -7.5, -1.5, 4, 12)},
		{scale(numbers(-1, 1, 1, 0.5), numbers(0, 1, 0, 0)), spans(-4, 1.5, 7, 9, -7.5, -1.5, 2, 6)},
		{samples.Relu(), spans(0, 1.5, 7, 9, 0, 0, 2, 6)},
		{quarter, spans(-0.375, 0, -2.25, -1.75, 0, 0, -1.5, -0.5)},
		{kind(api.KSquare), spans(0, 0.140625, 3.0625, 5.0625, 0, 0, 0.25, 2.25)},
		{shift, spans(0.5, 0.640625, -0.6875, 3.3125)},
		{samples.Windowed(api.KMax, 2, 2, 1, 1, 1, 1), slices.Concat(slices.Repeat(spans(0.5, 0.640625), 4), slices.Repeat(spans(-0.6875, 3.3125), 4))},
	} {
		layers = append(layers, c.l)
		expectEval(t, netOf(samples.Line(2), layers...), v, c.want, -1)
	}
	for _, k := range []int{api.KTanh, api.KSigmoid} {
		low, high := elem.Of(k, samples.Between(0.5, 0.640625)), elem.Of(k, samples.Between(-0.6875, 3.3125))
		expectEval(t, netOf(samples.Line(2), append(layers, kind(k))...), v, slices.Concat(slices.Repeat([]api.Span{low}, 4), slices.Repeat([]api.Span{high}, 4)), -1)
	}
}

// 15.3: KAdd adds the spans of the output From: the input's, those of a layer between, those of the one ahead.
func TestEvalOfSums(t *testing.T) {
	twice := scale(numbers(2), numbers(1))
	for from, want := range [][]api.Span{spans(3, 13, -12, 3), spans(4, 16, -14, 4), spans(6, 22, -18, 6)} {
		expectEval(t, netOf(samples.Line(2), twice, twice, samples.Add(from)), spans(0, 2, -3, 0), want, -1)
	}
	expectEval(t, netOf(samples.Line(1), samples.Add(0), samples.Add(1), samples.Add(0), samples.Relu(), samples.Add(2)), spans(-1, 3), spans(-4, 27), -1)
	// The input is added in its one form, too.
	minus := oracle.MinusZero()
	expectEval(t, netOf(samples.Line(1), samples.Relu(), samples.Add(0)), points(minus), points(0), -1)
	// What hangs together is not seen to: x - x is as wide as two of them.
	expectEval(t, netOf(samples.Line(1), scale(numbers(-1), numbers(0)), samples.Add(0)), spans(-1, 3), spans(-4, 4), -1)
}

// 15.3: each output of a network that is bad by its input: it is told to be the first, whatever comes behind it.
func TestEvalOfBadInput(t *testing.T) {
	for _, none := range samples.NoSpans() {
		v := []api.Span{samples.Between(1, 2), none, samples.Between(3, 4)}
		in := samples.Line(3)
		expectEval(t, netOf(in, samples.Relu()), v, join(spans(1, 2), bads(1), spans(3, 4)), 0)
		expectEval(t, netOf(in, dense(0, 1, 0, 1)), v, bads(1), 0)
		// No window takes what is bad: the last output is good.
		expectEval(t, netOf(in, pool(1, 2, 0)), v, spans(1, 2, 3, 4), 0)
		expectEval(t, netOf(in, pool(1, 2, 0), kind(api.KSquare), samples.Add(1)), v, spans(2, 6, 12, 20), 0)
		expectEval(t, netOf(in, kind(api.KSquare), samples.Add(0)), v, join(spans(2, 6), bads(1), spans(12, 20)), 0)
	}
}

// 15.3: the first output that has a bad span, and on to the end behind it: those that do not hang on it are told.
func TestEvalGoesOnBehindABadSpan(t *testing.T) {
	square, in := kind(api.KSquare), samples.Line(3)
	v := points(2, 0x1p600, 3)
	expectEval(t, netOf(in, square, square), v, join(points(16), bads(1), points(81)), 1)
	expectEval(t, netOf(in, samples.Relu(), samples.Relu(), square, samples.Relu()), v, join(points(4), bads(1), points(9)), 3)
	expectEval(t, netOf(in, samples.Relu(), square, pool(1, 2, 0)), v, points(4, 9), 2)
	expectEval(t, netOf(in, samples.Relu(), square, pool(1, 2, 0), samples.Add(3), dense(1, 1, 1)), v, points(27), 2)
	expectEval(t, netOf(in, samples.Relu(), square, filter(0, 2, 0, 1)), v, points(4, 9), 2)
	expectEval(t, netOf(in, square, dense(0, 0, 0, 1), samples.Relu()), v, bads(1), 1)
	// A sum with an output ahead of the bad one does not mend it.
	expectEval(t, netOf(in, square, samples.Add(0), samples.Add(1)), v, join(points(10), bads(1), points(21)), 1)
	// Two that go bad at two layers: the first one counts.
	expectEval(t, netOf(in, square, square), points(0x1p300, 0x1p600, 3), join(bads(2), points(81)), 1)
	expectEval(t, netOf(in, square, square), points(0x1p300, 1, 3), join(bads(1), points(1, 81)), 2)
}

// 15.3: as deep as a network may be: each sum doubles, and at one of them the numbers end.
func TestEvalOfTheDeepest(t *testing.T) {
	n := api.Net{In: samples.Line(2)}
	for m := range api.MaxLayers {
		n.Layers = append(n.Layers, samples.Add(m))
	}
	expectEval(t, n, spans(-1, 3, 0, oracle.Least), spans(-0x1p64, 0x3p64, 0, oracle.Least*0x1p64), -1)
	expectEval(t, n, spans(-1, 0x1p960, 0, 1), join(bads(1), spans(0, 0x1p64)), 64)
	expectEval(t, n, spans(-0x1p970, 0, 0, 1), join(bads(1), spans(0, 0x1p64)), 54)
	expectEval(t, n, spans(-oracle.Max, 0, 0, 1), join(bads(1), spans(0, 0x1p64)), 1)
}

// 15.3: as wide and heavy as a network may be.
func TestEvalOfTheWidest(t *testing.T) {
	heavy := api.Layer{Kind: api.KDense, Out: 255, W: samples.Ones(255 * 256), B: make([]float64, 255)}
	n := netOf(samples.Shape(4, 8, 8), heavy)
	for m := range api.MaxLayers - 1 {
		n.Layers = append(n.Layers, samples.Add(m+1))
	}
	expectEval(t, n, slices.Repeat(spans(-1, 0.5), 256), slices.Repeat(spans(-0x1p71, 0x1p70), 255), -1)
}

// 15.2, Ways: what a kind does is found by it, and a layer that hangs on an earlier output takes it out of those so far.
func TestWaysTakeOutputsSoFar(t *testing.T) {
	ahead, outputs := points(1, 2), [][]api.Span{points(10, 20), points(100, 200), points(1000, 2000)}
	for from, want := range []float64{22, 202, 2002} {
		if got := wayOf(samples.Add(from), samples.Line(2))(1, ahead, outputs...); !samples.SameSpan(got, samples.Between(want, want)) {
			t.Errorf("with output %d: %v, not %v", from, got, want)
		}
	}
	for _, l := range []api.Layer{samples.Relu(), samples.Leaky(0.5), pool(1, 1, 0), scale(numbers(1), numbers(0))} {
		tell := wayOf(l, samples.Line(2))
		for _, got := range []api.Span{tell(1, ahead), tell(1, ahead, outputs...), tell(1, ahead, nil)} {
			if !samples.SameSpan(got, samples.Between(2, 2)) {
				t.Errorf("the kind %d: %v", l.Kind, got)
			}
		}
	}
}
