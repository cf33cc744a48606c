package walk

import (
	"slices"
	"testing"

	"ambit/api"
	"ambit/oracle"
	"ambit/samples"
)

// 15.2: a number below 0 takes the other end; each kind goes by its rows.
func TestRowsOfEachKind(t *testing.T) {
	two, four := samples.Line(2), samples.Line(4)
	expectStep(t, api.Layer{Kind: api.KDense, Out: 3, W: numbers(1, 2, -1, 2, -1, -2), B: numbers(0, 10, -10)}, two, spans(1, 3, -5, 7), spans(-9, 17, -3, 23, -27, -1))
	expectStep(t, api.Layer{Kind: api.KConv, Out: 2, KH: 2, KW: 2, SH: 1, SW: 1, PH: 1, PW: 1, W: numbers(1, 2, 3, 4, -1, -2, -3, -4), B: numbers(9, 0)}, two, spans(5, 6, -7, 7),
		spans(29, 33, -4, 55, -12, 30, 19, 21, 0, 29, 2, 16, -24, -20, -46, 13, -21, 21, -12, -10, -20, 9, -7, 7))
	expectStep(t, scale(numbers(2, -3), numbers(0, 1)), samples.Shape(2, 1, 2), spans(1, 2, -3, 4, 5, 6, -7, 8), spans(2, 4, -6, 8, -17, -14, -23, 22))
	expectStep(t, mean(-0.5, 2, 2, 0), four, spans(0, 1, 2, 4, -8, 8, 1, 1), spans(-2.5, -1, -4.5, 3.5))
	// (1 + 2i)(x + yi) + 3 + 4i is x - 2y + 3 and 2x + y + 4.
	expectStep(t, turn([]complex128{1 + 2i}, []complex128{3 + 4i}), two, spans(0, 1, 5, 6), spans(-9, -6, 9, 12))
	expectStep(t, turn([]complex128{1i, -1}, []complex128{0}), four, spans(0, 1, 2, 4, 8, 16, 32, 64), spans(-20, -10, -64, -31))
	expectStep(t, turn([]complex128{-1i, 2}, []complex128{1i, 8}), two, spans(0, 1, 2, 4), spans(2, 4, 0, 1, 8, 10, 4, 8))
}

// 15.2: windows at an edge take what lies within; what lies outside counts 0, and is no span that could be bad.
func TestWindowsAtAnEdge(t *testing.T) {
	v := spans(1, 2, -3, 4, 10, 20)
	expectStep(t, filter(0, 1, 2, 1, -1, 100), samples.Line(3), v, spans(100, 200, -302, 399, 997, 2005, -23, -6, 10, 20))
	expectStep(t, mean(1, 2, 1, 1), samples.Line(3), v, spans(1, 2, -2, 6, 7, 24, 10, 20))
	expectStep(t, mean(2, 3, 3, 2), samples.Line(3), with(v, 1, samples.BadSpan()), join(spans(2, 4), bads(1)))
	expectStep(t, filter(5, 2, 1, 1, 1), samples.Line(3), with(v, 0, samples.Between(2, 1)), join(bads(1), spans(12, 29)))
}

// 15.2: it hangs on all of a row's places, also where the number is 0; on no others.
func TestNoughtsOverBadSpans(t *testing.T) {
	for _, zero := range numbers(0, oracle.MinusZero()) {
		for _, none := range samples.NoSpans() {
			expectStep(t, dense(1, 5, zero), samples.Line(2), join(spans(0, 1), []api.Span{none}), bads(1))
			expectStep(t, dense(1, zero, 5), samples.Line(2), []api.Span{none, samples.Between(0, 1)}, bads(1))
			expectStep(t, filter(1, 1, 0, zero, 1), samples.Line(3), []api.Span{none, samples.Between(0, 1), samples.Between(2, 3)}, join(bads(1), spans(3, 4)))
			expectStep(t, scale(numbers(zero), numbers(1)), samples.Line(2), []api.Span{none, samples.Between(0, 1)}, join(bads(1), points(1)))
			expectStep(t, mean(zero, 1, 1, 0), samples.Line(2), []api.Span{samples.Between(0, 1), none}, join(points(0), bads(1)))
			expectStep(t, turn([]complex128{complex(zero, zero)}, []complex128{1i}), samples.Line(2), []api.Span{samples.Between(0, 1), none}, bads(2))
			expectStep(t, turn([]complex128{complex(1, zero)}, []complex128{1i}), samples.Line(2), []api.Span{none, samples.Between(0, 1)}, bads(2))
		}
	}
	// Over spans that are not bad a number 0 takes what it is over away, however far that goes.
	far := samples.Between(-oracle.Max, oracle.Max)
	expectStep(t, dense(-2, 0, oracle.MinusZero(), 1), samples.Line(3), []api.Span{far, far, samples.Between(3, 4)}, spans(1, 2))
}

// 15.2: one rounding at each end: what is lost on the way is not, and what is left over goes outward.
func TestSumsAreRoundedOnce(t *testing.T) {
	max, least := oracle.Max, oracle.Least
	three := samples.Line(3)
	for _, c := range []struct {
		l    api.Layer
		v    []api.Span
		want []api.Span
	}{
		{dense(0, 1, 1, 1), points(0x1p53, 1, 1), points(0x1p53 + 2)},
		{dense(1, 1, 1, 1), points(0x1p53, 0, 0), spans(0x1p53, 0x1p53+2)},
		{dense(0, 1, 1, 1), points(0x1p100, 1, -0x1p100), points(1)},
		{dense(-0x1p100, 1, 1, 1), points(0x1p100, least, 0), points(least)},
		{dense(0, 1, 1, 1), points(1, least, 0), spans(1, 1+0x1p-52)},
		{dense(least, -1, 1, 1), points(1, 0, 0), spans(-1, -1+0x1p-53)},
		{dense(-least, 1, 1, 1), points(1, 0, 0), spans(1-0x1p-53, 1)},
		{dense(0, 0.1, 0, 0), points(3, 0, 0), spans(0x1.3333333333333p-2, 0x1.3333333333334p-2)},
		{dense(0, 0.1, 0.1, 0.1), points(10, -10, 0), points(0)},
		{dense(0, 0.5, 0, 0), points(least, 0, 0), spans(0, least)},
		{dense(0, -0.5, 0, 0), points(least, 0, 0), spans(-least, 0)},
		{dense(0, 0.5, 0.5, 0), points(least, least, 0), points(least)},
		{dense(0, 0.5, 0, 0), spans(-least, least, 0, 0, 0, 0), spans(-least, least)},
		{dense(0, 0x1p-1000, 0, 0), spans(-0x1p-1000, 0x1p-1000, 0, 0, 0, 0), spans(-least, least)},
		{dense(0, max, max, 0), points(max, -max, 0), points(0)},
		{dense(5, max, max, 1), spans(max, max, -max, -max, 2, 3), spans(7, 8)},
		{dense(0, 1, 1, -1), points(max, max, max), points(max)},
	} {
		expectStep(t, c.l, three, c.v, c.want)
		turned := c.l
		turned.W = slices.Clone(c.l.W)
		for i := range turned.W {
			turned.W[i] = -turned.W[i]
		}
		turned.B = numbers(-c.l.B[0])
		expectStep(t, turned, three, c.v, spans(0-c.want[0].Hi, 0-c.want[0].Lo))
	}
}

// 15.2: past the greatest number at either end there is none; just below it there is one.
func TestSumsPastTheGreatest(t *testing.T) {
	max, two := oracle.Max, samples.Line(2)
	for _, c := range []struct {
		l api.Layer
		v []api.Span
	}{
		{dense(0, 1, 1), points(max, oracle.Least)}, {dense(oracle.Least, 1, 0), points(max, 0)}, {dense(0, 1, 1), points(max, max)}, {dense(0, 2, 1), points(max, -1)},
		{dense(0, -1, 1), points(max, -oracle.Least)}, {dense(-1, -1, 0), points(max, 0)}, {dense(0, 1, 1), points(-max, -max)},
		{dense(0, 1, 1), spans(0, max, 0, oracle.Least)}, {dense(0, 1, 1), spans(-max, 0, -oracle.Least, 0)}, {dense(0, 1, -1), spans(-max, max, -max, max)},
		{dense(0, 0x1p600, 0), points(0x1p600, 0)}, {dense(0, 0x1p600, 0), points(-0x1p600, 0)}, {dense(0, max, 0), spans(-1, 1+0x1p-52, 0, 0)},
	} {
		expectStep(t, c.l, two, c.v, bads(1))
	}
	// The sum is past the greatest number on its way alone.
	expectStep(t, dense(-max, 1, 1), two, points(max, max), points(max))
	expectStep(t, dense(0, 1, 1), two, spans(-max, max, 0, 0), spans(-max, max))
	expectStep(t, dense(0, -1, 1), two, spans(-max, max, 0, 0), spans(-max, max))
	// Just the coordinate that has no number is bad.
	l := api.Layer{Kind: api.KDense, Out: 3, W: numbers(1, 1, 1, -1, -1, 1), B: numbers(0, 0, 0)}
	expectStep(t, l, two, points(max, max), join(bads(1), points(0, 0)))
}

// 15.2: no nought told has a sign, whatever signs there were.
func TestNoughtsOfRows(t *testing.T) {
	minus := oracle.MinusZero()
	expectStep(t, dense(minus, minus), samples.Line(1), points(minus), points(0))
	expectStep(t, dense(minus, 1), samples.Line(1), spans(minus, 0), points(0))
	expectStep(t, dense(minus, -1), samples.Line(1), spans(0, 1), spans(-1, 0))
	expectStep(t, dense(minus, -1), samples.Line(1), spans(0, minus), points(0))
	expectStep(t, mean(minus, 1, 1, 0), samples.Line(1), spans(-1, 1), points(0))
	expectStep(t, scale(numbers(-1), numbers(1)), samples.Line(1), points(1), points(0))
	expectStep(t, turn([]complex128{complex(minus, minus)}, []complex128{complex(minus, minus)}), samples.Line(2), spans(-1, 1, minus, minus), points(0, 0))
	expectSum(t, samples.Line(3), points(minus, minus, 1), points(minus, 0, -1), points(0, 0, 0))
}

// 15.2: as wide and heavy as a layer may be.
func TestTheWidestRows(t *testing.T) {
	l := api.Layer{Kind: api.KDense, Out: 255, W: samples.Ones(255 * 256), B: make([]float64, 255)}
	v := slices.Repeat(spans(-1, 0.5), 256)
	l.W[0], l.B[0], l.B[254] = -2, 0x1p-60, 1
	want := slices.Repeat(spans(-256, 128), 255)
	want[0], want[254] = samples.Between(-256, 129.5+0x1p-45), samples.Between(-255, 129)
	expectStep(t, l, samples.Shape(4, 8, 8), v, want)
	l = samples.Windowed(api.KConv, 16, 16, 1, 1, 0, 0)
	l.W, l.B = slices.Repeat(numbers(1, -1), 256), numbers(0, 3)
	expectStep(t, l, samples.Shape(1, 16, 16), v, spans(-192, 192, -189, 195))
}

// 15.2: sums of spans, with their roundings.
func TestSums(t *testing.T) {
	max, least := oracle.Max, oracle.Least
	expectSum(t, samples.Line(2), spans(-1, 2, 3, 3), spans(10, 20, -4, 4), spans(9, 22, -1, 7))
	expectSum(t, samples.Shape(2, 1, 1), points(0.1, 1), points(0.2, least), spans(0x1.3333333333333p-2, 0x1.3333333333334p-2, 1, 1+0x1p-52))
	expectSum(t, samples.Line(1), spans(-max, 0), spans(0, max), spans(-max, max))
	expectSum(t, samples.Line(1), spans(-max, max), points(0), spans(-max, max))
	expectSum(t, samples.Line(1), points(max), points(-max), points(0))
	for _, pair := range [][2][]api.Span{
		{points(max), points(least)}, {points(-max), points(-least)}, {spans(0, max), spans(0, least)}, {spans(-max, 0), spans(-least, 0)}, {points(max), points(max)}, {spans(-max, max), spans(-1, 1)},
	} {
		expectSum(t, samples.Line(1), pair[0], pair[1], bads(1))
		expectSum(t, samples.Line(3), join(points(1), pair[0], points(2)), join(points(3), pair[1], points(4)), join(points(4), bads(1), points(6)))
	}
	wide := slices.Repeat(spans(-1, 2), 256)
	expectSum(t, samples.Shape(1, 16, 16), wide, wide, slices.Repeat(spans(-2, 4), 256))
}

// 15.2: a sum hangs on both, and on nothing beside.
func TestSumsOfBadSpans(t *testing.T) {
	for _, none := range samples.NoSpans() {
		expectSum(t, samples.Line(1), []api.Span{none}, points(1), bads(1))
		expectSum(t, samples.Line(1), []api.Span{none}, []api.Span{none}, bads(1))
		expectSum(t, samples.Line(3), []api.Span{samples.Between(1, 2), none, samples.Between(3, 4)}, points(1, 2, 3), join(spans(2, 3), bads(1), spans(6, 7)))
	}
}

// 15.2: a span that may not be is bad wherever a row takes it, each way.
func TestRowsOfNoSpans(t *testing.T) {
	for _, none := range samples.NoSpans() {
		for place := range 3 {
			v := with(spans(1, 2, 3, 4, 5, 6), place, none)
			expectStep(t, dense(0, 1, 2, 3), samples.Line(3), v, bads(1))
			want := with(spans(-2, -1, -4, -3, -6, -5), place, samples.BadSpan())
			expectStep(t, scale(numbers(-1), numbers(0)), samples.Line(3), v, want)
			expectStep(t, mean(-1, 1, 1, 0), samples.Line(3), v, want)
			expectStep(t, filter(0, 1, 0, -1), samples.Line(3), v, want)
			expectStep(t, turn([]complex128{-1, 0}, []complex128{0}), samples.Line(4), join(v, points(0)), bads(2))
		}
	}
}

// 15.2: spans that go as far as numbers go.
func TestRowsAsFarAsNumbersGo(t *testing.T) {
	max := oracle.Max
	all := samples.Between(-max, max)
	expectStep(t, dense(0, 1), samples.Line(1), []api.Span{all}, []api.Span{all})
	expectStep(t, dense(0, -1), samples.Line(1), []api.Span{all}, []api.Span{all})
	expectStep(t, dense(0, 0.5, -0.5), samples.Line(2), []api.Span{all, all}, []api.Span{all})
	expectStep(t, dense(oracle.Least, 0.5, -0.5), samples.Line(2), []api.Span{all, all}, bads(1))
	expectStep(t, dense(0, oracle.Least), samples.Line(1), []api.Span{all}, spans(-0x1.fffffffffffffp-51, 0x1.fffffffffffffp-51))
	expectStep(t, dense(1, 1), samples.Line(1), spans(-max, -1), spans(-max, 0))
	expectStep(t, dense(-1, -1), samples.Line(1), spans(-max, -1), spans(0, max))
}
