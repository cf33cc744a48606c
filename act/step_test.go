package act

import (
	"slices"
	"testing"

	"ambit/api"
	"ambit/elem"
	"ambit/oracle"
	"ambit/samples"
)

// four has coordinates below 0, above it, across it, and at it.
func four() api.Zono {
	return of(numbers(-4, 4, 0, 0), ids(0, 5), lists(numbers(1, 1, 1, 0), numbers(0, 2, 1, 0)), numbers(0.5, 0.5, 0, 0))
}

// 13.2: each coordinate is bent by its own span.
func TestRelu(t *testing.T) {
	expectStep(t, four(), samples.Relu(), samples.Line(4), of(
		numbers(0, 4, 0.5, 0), ids(0, 5), lists(numbers(0, 1, 0.5, 0), numbers(0, 2, 0.5, 0)), numbers(0, 0.5, 0.5, 0)))
	// [-1, 3] by the box alone, and by both.
	expectStep(t, boxed(numbers(1), numbers(2)), samples.Relu(), samples.Line(1), boxed(numbers(1.125), numbers(1.5+0.375)))
	expectStep(t, of(numbers(1), ids(7), lists(numbers(-1)), numbers(1)), samples.Relu(), samples.Line(1), of(numbers(1.125), ids(7), lists(numbers(-0.75)), numbers(0.75+0.375)))
}

// 13.2: with a slope below 0 too.
func TestLeaky(t *testing.T) {
	expectStep(t, four(), samples.Leaky(0.5), samples.Line(4), of(
		numbers(-2, 4, 0.25, 0), ids(0, 5), lists(numbers(0.5, 1, 0.75, 0), numbers(0, 2, 0.75, 0)), numbers(0.25, 0.5, 0.25, 0)))
	expectStep(t, four(), samples.Leaky(1), samples.Line(4), four())
	expectStep(t, four(), samples.Leaky(0), samples.Line(4), Step(four(), samples.Relu(), samples.Line(4)))
	expectStep(t, four(), samples.Leaky(oracle.MinusZero()), samples.Line(4), Step(four(), samples.Relu(), samples.Line(4)))
}

// 13.2: a slope may be below 0; the box goes by its size.
func TestSquares(t *testing.T) {
	l := kind(api.KSquare)
	expectStep(t, one(2, 1), l, samples.Line(1), of(numbers(4.5), ids(0), lists(numbers(4)), numbers(0.5)))
	expectStep(t, one(-2, 1), l, samples.Line(1), of(numbers(4.5), ids(0), lists(numbers(-4)), numbers(0.5)))
	expectStep(t, boxed(numbers(2), numbers(1)), l, samples.Line(1), boxed(numbers(4.5), numbers(4.5)))
	expectStep(t, boxed(numbers(-2), numbers(1)), l, samples.Line(1), boxed(numbers(4.5), numbers(4.5)))
	expectStep(t, one(0, 2), l, samples.Line(1), boxed(numbers(2), numbers(2)))
	expectStep(t, point(3, -5, 0), l, samples.Line(3), point(9, 25, 0))
}

// 13.2: the rising functions: at a point, about 0, and far off.
func TestRisingSteps(t *testing.T) {
	expectStep(t, point(0), kind(api.KTanh), samples.Line(1), point(0))
	expectStep(t, point(0), kind(api.KSigmoid), samples.Line(1), point(0.5))
	expectStep(t, boxed(numbers(0), numbers(oracle.Max)), kind(api.KTanh), samples.Line(1), boxed(numbers(0), numbers(1)))
	expectStep(t, boxed(numbers(0), numbers(oracle.Max)), kind(api.KSigmoid), samples.Line(1), boxed(numbers(0.5), numbers(0.5)))
	// About 0 what is left lies about 0, too, and so nothing but it is in the box.
	slope := elem.TanhSlope(1).Lo
	left := rounded(api.Up, minus(oracle.Exact(elem.Tanh(1).Hi), oracle.Exact(slope)))
	expectStep(t, of(numbers(0), ids(4), lists(numbers(-1)), numbers(0)), kind(api.KTanh), samples.Line(1), of(numbers(0), ids(4), lists(numbers(-slope)), numbers(left)))
}

// 13.2: one rounding for a centre, one for each number of a column, and what they lose is in the box, in one rounding upward.
func TestStepRoundsOnce(t *testing.T) {
	e := 0x1p-52
	l := samples.Leaky(0.5 * (1 + e)) // times 1 + e it is half of 1 + 2e + e^2
	expectStep(t, point(-1-e), l, samples.Line(1), boxed(numbers(-0.5*(1+2*e)), numbers(0x1p-105)))
	column := numbers(1 + e)
	less := numbers(0.5 * (1 + 2*e))
	expectStep(t, of(numbers(-8), ids(3), lists(column), numbers(0)), l, samples.Line(1), of(numbers(-4*(1+e)), ids(3), lists(less), numbers(0x1p-105)))
	expectStep(t, of(numbers(-8), ids(3, 4, 9), lists(column, column, column), numbers(0)), l, samples.Line(1), of(numbers(-4*(1+e)), ids(3, 4, 9), lists(less, less, less), numbers(0x3p-105)))
	// The box itself is a number; three losses make it the next one, not the third.
	expectStep(t, of(numbers(-8), ids(3, 4, 9), lists(column, column, column), numbers(1)), l, samples.Line(1), of(numbers(-4*(1+e)), ids(3, 4, 9), lists(less, less, less), numbers(0.5*(1+2*e))))
	// From -1 to 2: a slope below two thirds, and what is left goes as far as the next number. Centre and column are ties.
	expectStep(t, of(numbers(0.5), ids(1), lists(numbers(1.5)), numbers(0)), samples.Relu(), samples.Line(1),
		of(numbers(0x1.5555555555556p-1), ids(1), lists(numbers(1)), numbers(0x1.5555555555558p-2)))
}

// 13.2: a column that is 0 everywhere goes with its Id, whether it was so, came out so, or was rounded to it; the others keep theirs.
func TestColumnsOfNoughtsGo(t *testing.T) {
	minus, least := oracle.MinusZero(), oracle.Least
	z := of(numbers(-8, 8), ids(0, 1, 4, 6, 9, api.MaxId), lists(numbers(0, minus), numbers(1, 1), numbers(2, 0), numbers(0, least), numbers(-1, minus), numbers(least, 0)), numbers(0, 0))
	expectStep(t, z, samples.Relu(), samples.Line(2), of(numbers(0, 8), ids(1, 6), lists(numbers(0, 1), numbers(0, least)), numbers(0, 0)))
	expectStep(t, z, samples.Leaky(0.5), samples.Line(2), of(numbers(-4, 8), ids(1, 4, 6, 9), lists(numbers(0.5, 1), numbers(1, 0), numbers(0, least), numbers(-0.5, 0)), numbers(least, 0)))
	expectStep(t, z, samples.Leaky(0.75), samples.Line(2), of(numbers(-6, 8), ids(1, 4, 6, 9, api.MaxId),
		lists(numbers(0.75, 1), numbers(1.5, 0), numbers(0, least), numbers(-0.75, 0), numbers(least, 0)), numbers(least, 0)))
	expectStep(t, of(numbers(-8, -9), ids(2, 3), lists(numbers(1, 1), numbers(0, 4)), numbers(0, 1)), samples.Relu(), samples.Line(2), point(0, 0))
}

// 13.2: no columns, and one coordinate.
func TestStepWithoutColumns(t *testing.T) {
	for _, z := range []api.Zono{boxed(numbers(3), numbers(1)), of(numbers(3), ids(), lists(), numbers(1))} {
		expectStep(t, z, samples.Relu(), samples.Line(1), boxed(numbers(3), numbers(1)))
		expectStep(t, z, samples.Leaky(0.5), samples.Line(1), boxed(numbers(3), numbers(1)))
		expectStep(t, z, window(1, 1, 1, 1, 0, 0), samples.Line(1), boxed(numbers(3), numbers(1)))
	}
}

// 13.2: noughts with a sign are told without it.
func TestStepOfNoughts(t *testing.T) {
	minus := oracle.MinusZero()
	z := of(numbers(minus, 1), ids(3), lists(numbers(minus, 0.5)), numbers(minus, minus))
	want := of(numbers(0, 1), ids(3), lists(numbers(0, 0.5)), numbers(0, 0))
	expectStep(t, z, samples.Relu(), samples.Line(2), want)
	expectStep(t, z, samples.Leaky(minus), samples.Line(2), want)
	expectStep(t, z, samples.Leaky(0.5), samples.Line(2), want)
	expectStep(t, z, window(1, 1, 1, 1, 0, 0), samples.Line(2), want)
	expectStep(t, point(minus, minus), window(1, 2, 1, 1, 0, 0), samples.Line(2), point(0))
}

// 13.2: the greatest one of a window, wherever it stands, with its columns and its box; to be as great at one point counts.
func TestMaxWithAGreatest(t *testing.T) {
	l := window(1, 3, 1, 1, 0, 0)
	for _, places := range [][]int{{0, 1, 2}, {2, 0, 1}, {1, 2, 0}, {2, 1, 0}} {
		c, g, h, r := make([]float64, 3), make([]float64, 3), make([]float64, 3), make([]float64, 3)
		for i, place := range places {
			c[place], g[place], h[place], r[place] = numbers(10, 3, -5)[i], numbers(2, 3, 0)[i], numbers(-1, 0, 7)[i], numbers(0.25, 0, 1)[i]
		}
		expectStep(t, of(c, ids(1, 2), lists(g, h), r), l, samples.Line(3), of(numbers(10), ids(1, 2), lists(numbers(2), numbers(-1)), numbers(0.25)))
		// Now the second one goes up to 8, where the first one ends, and no farther.
		g[places[1]], r[places[1]], r[places[0]], h[places[0]] = 4, 1, 0, 0
		expectStep(t, of(c, ids(1, 2), lists(g, h), r), l, samples.Line(3), of(numbers(10), ids(1), lists(numbers(2)), numbers(0)))
		r[places[1]] = 1 + 0x1p-50
		expectStep(t, of(c, ids(1, 2), lists(g, h), r), l, samples.Line(3), boxed(numbers(10), numbers(2)))
	}
}

// 13.2: several greatest ones are one and the same point.
func TestMaxWithSeveralGreatest(t *testing.T) {
	l := window(1, 3, 1, 1, 0, 0)
	z := of(numbers(2, 5, 5), ids(0, 1), lists(numbers(3, 0, 0), numbers(0, 0, 0)), numbers(0, 0, 0))
	expectStep(t, z, l, samples.Line(3), point(5))
	expectStep(t, point(5, 5, 5), l, samples.Line(3), point(5))
	expectStep(t, point(oracle.MinusZero(), 0, 0), l, samples.Line(3), point(0))
	s := []api.Span{between(1, 1), between(7, 7), between(0, 7), between(7, 7), between(7, 7)}
	for _, c := range []struct {
		places []int
		want   int
	}{{ids(0, 1, 2, 3, 4), 1}, {ids(2, 3, 4), 3}, {ids(3, 4), 3}, {ids(4), 4}, {ids(0, 2, 4), 4}, {ids(0), 0}, {ids(2), 2}, {ids(0, 1, 4), 1}} {
		if h := greatest(s, c.places); h.place != c.want || h.slope != 1 || !samples.SameSpan(h.rest, between(0, 0)) {
			t.Errorf("of %v: %+v, not %d", c.places, h, c.want)
		}
	}
}

// 13.2: without a greatest one there are no columns, and a box from the greatest Lo to the greatest Hi.
func TestMaxWithoutAGreatest(t *testing.T) {
	max := oracle.Max
	l := window(1, 3, 1, 1, 0, 0)
	z := of(numbers(0, 1, -3), ids(0, 6), lists(numbers(2, 0, 0), numbers(0, 0.5, 1)), numbers(1, 0, 0))
	expectStep(t, z, l, samples.Line(3), boxed(numbers(1.75), numbers(1.25)))
	two := window(1, 2, 1, 1, 0, 0)
	// Half of 1 and the next number is none: the centre is off by as much as the box has.
	expectStep(t, boxed(numbers(1, 1), numbers(0x1p-52, 0)), two, samples.Line(2), boxed(numbers(1), numbers(0x1p-52)))
	expectStep(t, boxed(numbers(0, 0), numbers(max, max)), two, samples.Line(2), boxed(numbers(0), numbers(max)))
	expectStep(t, boxed(numbers(max, 0), numbers(0, max)), two, samples.Line(2), point(max))
	expectStep(t, boxed(numbers(0, 1), numbers(max, 0)), two, samples.Line(2), boxed(numbers(max/2), numbers(max/2)))
	expectStep(t, boxed(numbers(0, 0), numbers(oracle.Least, 0)), two, samples.Line(2), boxed(numbers(0), numbers(oracle.Least)))
	expectStep(t, boxed(numbers(-9, -9), numbers(2, 1)), two, samples.Line(2), boxed(numbers(-8.5), numbers(1.5)))
}

// 13.2: windows of one place copy, those of many take what lies within, and no channel looks into another.
func TestMaxByWindows(t *testing.T) {
	z := samples.WideZono(12, 3)
	expectStep(t, z, window(1, 1, 1, 1, 0, 0), samples.Shape(2, 2, 3), unsigned(z))
	expectStep(t, point(1, 2, 3, 4, 5, 6), window(1, 1, 1, 2, 0, 0), samples.Shape(1, 2, 3), point(1, 3, 4, 6))
	expectStep(t, point(1, 2, 3, 4, 5, 6), window(2, 2, 1, 1, 0, 0), samples.Shape(1, 2, 3), point(5, 6))
	expectStep(t, point(1, 2, 3, 4, -5, -6), window(1, 3, 1, 1, 0, 0), samples.Shape(2, 1, 3), point(3, 4))
	// What lies outside counts nothing, not even 0.
	expectStep(t, point(-1, -2, -3, -4), window(2, 2, 1, 1, 1, 1), samples.Shape(1, 2, 2), point(-1, -1, -2, -1, -1, -2, -3, -3, -4))
	expectStep(t, boxed(numbers(-1, -2), numbers(0.25, 1)), window(1, 2, 1, 1, 0, 1), samples.Line(2), boxed(numbers(-1, -1, -2), numbers(0.25, 0.25, 1)))
	expectStep(t, point(7), window(16, 16, 16, 16, 15, 15), samples.Line(1), point(7))
	all := make([]float64, 256)
	for i := range all {
		all[i] = float64(i*37%256) - 128
	}
	expectStep(t, point(all...), window(16, 16, 1, 1, 0, 0), samples.Shape(1, 16, 16), point(127))
}

// unsigned is z with noughts that have no sign.
func unsigned(z api.Zono) api.Zono {
	y := of(slices.Clone(z.C), z.Ids, nil, slices.Clone(z.R))
	for _, g := range z.G {
		y.G = append(y.G, slices.Clone(g))
	}
	for _, l := range append(slices.Clone(y.G), y.C, y.R) {
		for i := range l {
			l[i] += 0
		}
	}
	return y
}

// 13.2: the coordinates' number counts, not how they lie.
func TestStepHeedsTheSize(t *testing.T) {
	for _, in := range []api.Shape{samples.Line(4), samples.Shape(4, 1, 1), samples.Shape(1, 4, 1), samples.Shape(2, 1, 2), samples.Shape(2, 2, 1)} {
		for _, k := range curves() {
			expectStep(t, four(), kind(k), in, Step(four(), kind(k), samples.Line(4)))
		}
	}
}

// 13.2: a span that is bad makes all of it bad, also at a coordinate that no window takes.
func TestStepWithBadBounds(t *testing.T) {
	max := oracle.Max
	for i := range 3 {
		for _, c := range numbers(max, -max) {
			z := samples.WideZono(3, 2)
			z.C[i], z.R[i] = c, max
			for _, k := range curves() {
				expectBad(t, z, kind(k), samples.Line(3), 3)
			}
			expectBad(t, z, window(1, 1, 1, 1, 0, 0), samples.Line(3), 3)
			expectBad(t, z, window(1, 1, 1, 16, 0, 0), samples.Line(3), 1)
			expectBad(t, z, window(1, 2, 1, 2, 0, 0), samples.Line(3), 1)
		}
	}
}

// 13.2: numbers that are none: of a bend, of a centre, of a column, of the box alone.
func TestStepWithoutANumber(t *testing.T) {
	l := kind(api.KSquare)
	for _, z := range []api.Zono{
		point(0x1p512), point(-oracle.Max), one(0, 0x1p512),
		boxed(numbers(0x1.fffffffffffffp511), numbers(0x1.fffffffffffffp511)),
		boxed(numbers(0x1.6p511), numbers(0x1.6p511)),
		one(0x1.6p511, 0x1.ap511),
	} {
		expectBad(t, z, l, samples.Line(1), 1)
		// Each of the others is good, and all of it is bad all the same.
		for _, i := range []int{0, 1, 2} {
			more := samples.WideZono(3, len(z.Ids))
			more.C[i], more.R[i] = z.C[0], z.R[0]
			for k, g := range z.G {
				more.G[k][i] = g[0]
			}
			expectBad(t, more, l, samples.Line(3), 3)
		}
	}
	// With a column of that width instead of the box every number is one.
	z := one(0x1.6p511, 0x1.6p511)
	if y := Step(z, l, samples.Line(1)); y.Bad {
		t.Errorf("%s is bad", text(z))
	}
}

// 13.2: as many coordinates and columns as there may be.
func TestGreatSteps(t *testing.T) {
	z := samples.WideZono(256, 300)
	want := api.Zono{N: 256, C: make([]float64, 256), R: make([]float64, 256)}
	for i := range 256 {
		z.C[i] = 0x1p20
		if i%2 == 0 {
			z.C[i] = -0x1p20
		} else {
			want.C[i], want.R[i] = z.C[i], z.R[i]
		}
	}
	for k, g := range z.G {
		column := make([]float64, 256)
		for i := 1; i < 256; i += 2 {
			column[i] = g[i]/0x1p20 + 0
		}
		for i := range g {
			g[i] /= 0x1p20
		}
		want.Ids, want.G = append(want.Ids, z.Ids[k]), append(want.G, column)
	}
	expectStep(t, z, samples.Relu(), samples.Shape(4, 8, 8), want)
}
