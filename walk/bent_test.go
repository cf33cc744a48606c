package walk

import (
	"slices"
	"testing"

	"ambit/api"
	"ambit/elem"
	"ambit/oracle"
	"ambit/samples"
)

// sides are spans below 0, above it, across it and with it at an end, points among them, the least and the greatest ones among them.
func sides() []api.Span {
	max, least, minus := oracle.Max, oracle.Least, oracle.MinusZero()
	return spans(-3, -2, -1, 2, 1, 2, 0, 0, minus, minus, minus, 0, 0, minus, 0, 5, minus, 5, -5, 0, -5, minus, -2, -2, 2, 2,
		-least, least, -least, -least, least, least, 0, least, -least, 0, -max, max, -max, -max, max, max, 0, max, -max, 0, -max, -least, least, max, -max, least, -least, max)
}

// 15.2: KRelu tells the greater ones of each end and 0; a KLeaky with A 0 is the same, whatever sign that has.
func TestRelu(t *testing.T) {
	max, least := oracle.Max, oracle.Least
	want := spans(0, 0, 0, 2, 1, 2, 0, 0, 0, 0, 0, 0, 0, 0, 0, 5, 0, 5, 0, 0, 0, 0, 0, 0, 2, 2,
		0, least, 0, 0, least, least, 0, least, 0, 0, 0, max, 0, 0, max, max, 0, max, 0, 0, 0, 0, least, max, 0, least, 0, max)
	in := samples.Line(len(want))
	for _, l := range []api.Layer{samples.Relu(), samples.Leaky(0), samples.Leaky(oracle.MinusZero())} {
		expectStep(t, l, in, sides(), want)
	}
}

// 15.2: KLeaky takes A's part of an end that is not above 0, rounded outward, and leaves the others.
func TestLeaky(t *testing.T) {
	max, least := oracle.Max, oracle.Least
	for _, c := range []struct{ a, lo, hi, low, high float64 }{
		{0.5, -1, 2, -0.5, 2}, {0.5, -4, -2, -2, -1}, {0.5, 1, 3, 1, 3}, {0.5, -2, 0, -1, 0}, {0.5, 0, 2, 0, 2}, {0.5, -3, -3, -1.5, -1.5},
		{0.5, -least, least, -least, least}, {0.5, -least, -least, -least, 0}, {0.5, -3 * least, -least, -2 * least, 0}, {0.5, least, least, least, least},
		{0.5, -max, max, -max / 2, max}, {0.5, -max, -max, -max / 2, -max / 2}, {0.25, -max, -4, -max / 4, -1},
		{0.1, -3, -3, -0x1.3333333333334p-2, -0x1.3333333333333p-2}, {0.1, -3, 3, -0x1.3333333333334p-2, 3}, {0.1, 3, 3, 3, 3},
		{1.0 / 3, -3, -3, -1, -1 + 0x1p-53},
		{least, -1, 1, -least, 1}, {least, -1, -1, -least, -least}, {least, -0.5, -0.5, -least, 0}, {least, -max, max, -0x1.fffffffffffffp-51, max},
		{1 - 0x1p-53, -1, -1, -1 + 0x1p-53, -1 + 0x1p-53}, {1 - 0x1p-53, -max, 1, -max, 1}, {0x1p-1022, -0x1p-53, 0, -least, 0},
	} {
		expectStep(t, samples.Leaky(c.a), samples.Line(1), spans(c.lo, c.hi), spans(c.low, c.high))
	}
}

// 15.2: with A 1 nothing is bent: each span is told as it was, its noughts without their signs.
func TestLeakyWithAllOfIt(t *testing.T) {
	var want []api.Span
	for _, s := range sides() {
		want = append(want, samples.Between(s.Lo+0, s.Hi+0))
	}
	expectStep(t, samples.Leaky(1), samples.Line(len(want)), sides(), want)
}

// 15.2: the least square is 0 where 0 lies in the span, else that of the nearer end; each end is rounded outward.
func TestSquare(t *testing.T) {
	max, least, minus := oracle.Max, oracle.Least, oracle.MinusZero()
	square := kind(api.KSquare)
	for _, c := range []struct{ lo, hi, low, high float64 }{
		{-1, 2, 0, 4}, {-3, 2, 0, 9}, {1, 3, 1, 9}, {-3, -1, 1, 9}, {0, 3, 0, 9}, {-3, 0, 0, 9}, {minus, 2, 0, 4}, {-2, minus, 0, 4}, {0, 0, 0, 0}, {minus, minus, 0, 0}, {minus, 0, 0, 0},
		{3, 3, 9, 9}, {-3, -3, 9, 9}, {-least, least, 0, least}, {least, least, 0, least}, {-least, -least, 0, least}, {-least, 0, 0, least}, {0x1p-537, 0x1p-537, least, least}, {0x1p-538, 0x1p-538, 0, least},
		{1 + 0x1p-52, 1 + 0x1p-52, 1 + 0x1p-51, 1 + 0x3p-52}, {-1 - 0x1p-52, 1, 0, 1 + 0x3p-52}, {0.1, 0.1, 0x1.47ae147ae147bp-7, 0x1.47ae147ae147cp-7},
		{0x1p511, 0x1p511, 0x1p1022, 0x1p1022}, {-0x1.fffffffffffffp511, 1, 0, max},
	} {
		expectStep(t, square, samples.Line(1), spans(c.lo, c.hi), spans(c.low, c.high))
	}
	for _, s := range []api.Span{samples.Between(max, max), samples.Between(-max, -max), samples.Between(-max, max), samples.Between(0, 0x1p512), samples.Between(-0x1p512, 0), samples.Between(0x1p512, 0x1p512), samples.Between(-0x1p600, -1)} {
		expectStep(t, square, samples.Line(1), []api.Span{s}, bads(1))
		expectStep(t, square, samples.Line(3), []api.Span{samples.Between(1, 2), s, samples.Between(-2, 1)}, join(spans(1, 4), bads(1), spans(0, 4)))
	}
}

// 15.2: KTanh and KSigmoid tell what elem tells of the span.
func TestRisingFunctions(t *testing.T) {
	for _, k := range []int{api.KTanh, api.KSigmoid} {
		var want []api.Span
		for _, s := range sides() {
			want = append(want, elem.Of(k, s))
		}
		expectStep(t, kind(k), samples.Line(len(want)), sides(), want)
	}
	max, full := oracle.Max, 1-0x1p-53
	expectStep(t, kind(api.KTanh), samples.Line(4), spans(0, 0, -max, max, 500, max, -max, -500), spans(0, 0, -1, 1, full, 1, -1, -full))
	expectStep(t, kind(api.KSigmoid), samples.Line(4), spans(0, 0, -max, max, 900, max, -max, -900), spans(0.5, 0.5, 0, 1, full, 1, 0, oracle.Least))
}

// 15.2: KMax tells the greatest Lo and the greatest Hi of what lies within, which may be those of two places.
func TestMax(t *testing.T) {
	minus := oracle.MinusZero()
	expectStep(t, pool(2, 1, 0), samples.Line(4), spans(0, 3, 1, 2, -5, 9, -7, -6), spans(1, 3, 1, 9, -5, 9))
	expectStep(t, pool(3, 1, 2), samples.Line(3), spans(-3, -1, -2, -2, -9, 0), spans(-3, -1, -2, -1, -2, 0, -2, 0, -9, 0))
	expectStep(t, pool(1, 1, 0), samples.Line(3), spans(minus, minus, -1, minus, minus, 1), spans(0, 0, -1, 0, 0, 1))
	expectStep(t, pool(2, 1, 0), samples.Line(2), points(minus, minus), points(0))
	expectStep(t, pool(2, 1, 0), samples.Line(2), spans(minus, minus, -1, 0), points(0))
	// No channel looks into another, and what lies outside counts nothing, not even 0.
	square := samples.Windowed(api.KMax, 2, 2, 2, 2, 1, 1)
	expectStep(t, square, samples.Shape(2, 2, 2), spans(-1, -1, -2, -2, -3, -3, -9, 7, 1, 2, 3, 4, 5, 6, 7, 8), spans(-1, -1, -2, -2, -3, -3, -9, 7, 1, 2, 3, 4, 5, 6, 7, 8))
	max, least := oracle.Max, oracle.Least
	expectStep(t, pool(2, 2, 0), samples.Line(6), spans(-max, max, 0, 0, -max, -least, -least, least, max, max, -max, max), spans(0, max, -least, least, max, max))
	all := slices.Repeat(spans(-2, 1), 256)
	all[77], all[200] = samples.Between(-1, 0.5), samples.Between(-9, 3)
	expectStep(t, samples.Windowed(api.KMax, 16, 16, 1, 1, 0, 0), samples.Shape(1, 16, 16), all, spans(-1, 3))
}

// 15.2: a coordinate of a KMax hangs on its own window alone.
func TestMaxOfBadSpans(t *testing.T) {
	for _, none := range samples.NoSpans() {
		for place := range 3 {
			v := with(spans(1, 2, 5, 6, 3, 4), place, none)
			expectStep(t, pool(3, 1, 0), samples.Line(3), v, bads(1))
			expectStep(t, pool(1, 1, 0), samples.Line(3), v, with(spans(1, 2, 5, 6, 3, 4), place, samples.BadSpan()))
		}
		// Bad or greater: one that is less than its neighbour spoils the window all the same.
		expectStep(t, pool(2, 1, 0), samples.Line(4), []api.Span{none, samples.Between(1, 2), samples.Between(3, 4), samples.Between(5, 6)}, join(bads(1), spans(3, 4, 5, 6)))
		// No window takes the second one.
		expectStep(t, pool(1, 2, 0), samples.Line(3), []api.Span{samples.Between(1, 2), none, samples.Between(3, 4)}, spans(1, 2, 3, 4))
	}
}

// 15.2: spans that may not be, each way, of each kind that bends one coordinate: those beside them are told.
func TestBendsOfNoSpans(t *testing.T) {
	layers := []api.Layer{samples.Relu(), samples.Leaky(0), samples.Leaky(0.5), samples.Leaky(1), kind(api.KTanh), kind(api.KSigmoid), kind(api.KSquare)}
	for _, l := range layers {
		good := Step(l, samples.Line(1), spans(-1, 2), nil)
		if len(good) != 1 || good[0].Bad {
			t.Fatalf("%s of %s", text(good), text(l))
		}
		for _, none := range samples.NoSpans() {
			expectStep(t, l, samples.Line(1), []api.Span{none}, bads(1))
			expectStep(t, l, samples.Line(3), []api.Span{samples.Between(-1, 2), none, samples.Between(-1, 2)}, join(good, bads(1), good))
		}
	}
}

// 15.2: how coordinates lie turns nothing where each is told of its own.
func TestShapesOfOneSize(t *testing.T) {
	v := spans(-1, 2, -3, -2, 4, 5, 0, 1)
	for _, l := range []api.Layer{samples.Relu(), samples.Leaky(0.1), kind(api.KTanh), kind(api.KSigmoid), kind(api.KSquare)} {
		want := Step(l, samples.Line(4), v, nil)
		for _, in := range []api.Shape{samples.Shape(4, 1, 1), samples.Shape(1, 4, 1), samples.Shape(2, 1, 2), samples.Shape(2, 2, 1), samples.Shape(1, 2, 2)} {
			expectStep(t, l, in, v, want)
			expectSum(t, in, v, v, spans(-2, 4, -6, -4, 8, 10, 0, 2))
		}
	}
}
