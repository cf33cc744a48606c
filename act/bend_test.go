package act

import (
	"math"
	"testing"

	"ambit/api"
	"ambit/elem"
	"ambit/oracle"
	"ambit/samples"
)

// 13.1: spans on one side of 0, the ends among them; nothing is left there.
func TestKinksOnOneSide(t *testing.T) {
	max, least, minus := oracle.Max, oracle.Least, oracle.MinusZero()
	for _, s := range []api.Span{between(-2, 0), between(-2, minus), between(-max, 0), between(-least, 0), between(-3, -1), between(-2, -2), between(-max, -least), between(-max, -max),
		between(0, 0), between(minus, minus), between(minus, 0), between(0, minus)} {
		expectBend(t, samples.Relu(), s, 0, between(0, 0))
		for _, a := range numbers(0, least, 0x1p-1022, 0.1, 0.5, 1-0x1p-53, 1) {
			expectBend(t, samples.Leaky(a), s, a, between(0, 0))
		}
		expectBend(t, samples.Leaky(minus), s, 0, between(0, 0))
	}
	for _, s := range []api.Span{between(0, 5), between(minus, 5), between(0, max), between(0, least), between(1, 3), between(2, 2), between(least, least), between(max, max), between(least, max)} {
		for _, l := range []api.Layer{samples.Relu(), samples.Leaky(0), samples.Leaky(minus), samples.Leaky(least), samples.Leaky(0.5), samples.Leaky(1)} {
			expectBend(t, l, s, 1, between(0, 0))
		}
	}
}

// 13.1: spans across 0. With A 0 a KLeaky is a KRelu.
func TestReluAcross(t *testing.T) {
	max, least := oracle.Max, oracle.Least
	for _, c := range []struct {
		name                string
		lo, hi, slope, rest float64
	}{
		{"as far on both sides", -1, 1, 0.5, 0.5},
		{"farther above", -1, 3, 0.75, 0.75},
		{"farther below", -3, 1, 0.25, 0.75},
		{"two thirds, below them: more is left above", -1, 2, 0x1.5555555555555p-1, 0x1.5555555555556p-1},
		{"a third: what is left has one bit too many", -2, 1, 0x1.5555555555555p-2, 0x1.5555555555556p-1},
		{"a slope above the quotient: more is left below", -2, 3, 0x1.3333333333333p-1, 0x1.3333333333334p0},
		{"a width that is no number", -0x1p-53, 1, 1 - 0x1p-53, 0x1p-53},
		{"a slope that is rounded to 1", -0x1p-55, 1, 1, 0x1p-55},
		{"the greatest numbers: the width is none", -max, max, 0.5, max / 2},
		{"the least numbers: half of one is left", -least, least, 0.5, least},
		{"a slope that is rounded to 0", -max, least, 0, least},
		{"the least one below", -least, max, 1, least},
		{"a slope of the least size", -0x1p1023, 0x1p-51, least, 0x1p-51},
	} {
		expectBend(t, samples.Relu(), between(c.lo, c.hi), c.slope, between(0, c.rest))
		expectBend(t, samples.Leaky(0), between(c.lo, c.hi), c.slope, between(0, c.rest))
		expectBend(t, samples.Leaky(oracle.MinusZero()), between(c.lo, c.hi), c.slope, between(0, c.rest))
		if t.Failed() {
			t.Fatal(c.name)
		}
	}
}

// 13.1: a KLeaky across 0.
func TestLeakyAcross(t *testing.T) {
	max, least := oracle.Max, oracle.Least
	for _, c := range []struct{ a, lo, hi, slope, rest float64 }{
		{0.5, -2, 2, 0.75, 0.5},
		{0.25, -1, 3, 0.8125, 0.5625},
		{0.25, -3, 1, 0.4375, 0.5625},
		{0.5, -max, max, 0.75, max / 4},
		{0.5, -least, least, 0.75, least},
		{least, -1, 1, 0.5, 0.5},
		{0x1p-52, -1, 1, 0.5 + 0x1p-53, 0.5 - 0x1p-53},
		{1 - 0x1p-53, -1, 1, 1, 0x1p-53},
		{1, -1, 1, 1, 0},
		{1, -3, 0.1, 1, 0},
		{1, -max, least, 1, 0},
		{1, -least, max, 1, 0},
		{1, -max, max, 1, 0},
	} {
		expectBend(t, samples.Leaky(c.a), between(c.lo, c.hi), c.slope, between(0, c.rest))
	}
}

// 13.1: the square's slope is the ends' sum, and what is left is least between them.
func TestSquare(t *testing.T) {
	max, least, minus := oracle.Max, oracle.Least, oracle.MinusZero()
	for _, c := range []struct{ lo, hi, slope, low, high float64 }{
		{1, 3, 4, -4, -3},
		{-3, -1, -4, -4, -3},
		{-1, 1, 0, 0, 1},
		{-3, 1, -2, -1, 3},
		{-1, 3, 2, -1, 3},
		{0, 1, 1, -0.25, 0},
		{-1, 0, -1, -0.25, 0},
		{5, 5, 10, -25, -25},
		{-5, -5, -10, -25, -25},
		{0, 0, 0, 0, 0},
		{minus, minus, 0, 0, 0},
		{minus, 2, 2, -1, 0},
		{-2, minus, -2, -1, 0},
		{least, least, 2 * least, -least, 0},
		{-least, 0, -least, -least, 0},
		{-least, least, 0, 0, least},
		{1, 1 + 0x1p-52, 2, -1, -1 + 0x1p-53},
		{1 + 0x1p-52, 1 + 0x1p-51, 2 + 0x1p-50, -1 - 0x5p-52, -1 - 0x1p-50},
		{-1, 0x1p-60, -1, -0.25, math.Nextafter(0x1p-60, 1)},
		{0x1p511, 0x1p511, 0x1p512, -0x1p1022, -0x1p1022},
		{-0x1p511, 0x1p511, 0, 0, 0x1p1022},
		{0, 0x1p512, 0x1p512, -0x1p1022, 0},
		{0, 0x1.fffffffffffffp512, 0x1.fffffffffffffp512, -max, 0},
		{-0x1.fffffffffffffp511, 0x1.fffffffffffffp511, 0, 0, max},
	} {
		expectBend(t, kind(api.KSquare), between(c.lo, c.hi), c.slope, between(c.low, c.high))
	}
}

// 13.1: a square whose numbers are none: the slope, what is least, what is greatest.
func TestSquaresWithoutANumber(t *testing.T) {
	max := oracle.Max
	for _, s := range []api.Span{
		between(max, max), between(-max, -max), between(0x1p1023, 0x1p1023), between(0x1p970, max),
		between(0x1p512, 0x1p512), between(-0x1p512, -0x1p512), between(0, 0x1p513), between(-0x1p513, 0), between(1, max),
		between(-0x1p512, 0x1p512), between(-max, max), between(-0x1p1000, 0x1p1000),
	} {
		expectNoBend(t, kind(api.KSquare), s)
	}
}

// 13.1: at 0, far off, and across all there is.
func TestRisingFunctionsByHand(t *testing.T) {
	max, minus, full := oracle.Max, oracle.MinusZero(), 1-0x1p-53
	for _, s := range []api.Span{between(0, 0), between(minus, minus), between(minus, 0), between(0, minus)} {
		expectBend(t, kind(api.KTanh), s, 1, between(0, 0))
		expectBend(t, kind(api.KSigmoid), s, 0.25, between(0.5, 0.5))
	}
	for _, s := range []api.Span{between(900, 1000), between(801, 801), between(max, max), between(900, max)} {
		expectBend(t, kind(api.KTanh), s, 0, between(full, 1))
		expectBend(t, kind(api.KSigmoid), s, 0, between(full, 1))
		s = between(-s.Hi, -s.Lo)
		expectBend(t, kind(api.KTanh), s, 0, between(-1, -full))
		expectBend(t, kind(api.KSigmoid), s, 0, between(0, oracle.Least))
	}
	for _, s := range []api.Span{between(-900, 900), between(-max, max), between(-801, max), between(-max, 1000)} {
		expectBend(t, kind(api.KTanh), s, 0, between(-1, 1))
		expectBend(t, kind(api.KSigmoid), s, 0, between(0, 1))
	}
}

// 13.1: the least slope that elem tells, and what it tells at the two ends, each less slope times the end in one rounding.
func TestRisingFunctions(t *testing.T) {
	for _, s := range []api.Span{between(-1, 1), between(-1, 2), between(-2, 1), between(0, 1), between(-1, 0), between(1, 3), between(-3, -1), between(2, 2), between(-0.3, -0.3),
		between(0, oracle.Least), between(-oracle.Least, oracle.Least), between(oracle.Least, oracle.Least), between(0x1p-30, 0x1p-29), between(-20, 30), between(-300, 390), between(-700, 790), between(-0.1, 1000)} {
		for k, at := range map[int]func(x float64) api.Span{api.KTanh: elem.Tanh, api.KSigmoid: elem.Sigmoid} {
			slope, ok := elem.Least(k, s)
			if !ok {
				t.Fatal("no slope")
			}
			line := func(x float64, f float64, d api.Dir) float64 {
				return rounded(d, minus(oracle.Exact(f), times(oracle.Exact(slope), oracle.Exact(x))))
			}
			expectBend(t, kind(k), s, slope, between(line(s.Lo, at(s.Lo).Lo, api.Down), line(s.Hi, at(s.Hi).Hi, api.Up)))
		}
	}
}

// 13.1: what is no field of the kind is not looked at, and A of KLeaky alone is.
func TestOtherFieldsAreNotLookedAt(t *testing.T) {
	for _, k := range curves() {
		for _, s := range []api.Span{between(-1, 3), between(-3, -2), between(1, 2)} {
			plain := api.Layer{Kind: k, A: 0.5}
			slope, rest, ok := Bend(plain, s)
			if !ok {
				t.Fatalf("no bend of %d", k)
			}
			wild := api.Layer{Kind: k, A: 0.5, Out: -1, KH: 99, KW: -3, SH: math.MaxInt, SW: math.MinInt, PH: 7, PW: 8, From: 1000,
				W: numbers(math.NaN()), B: numbers(1, 2), Z: []complex128{1}, ZB: []complex128{complex(math.Inf(1), 0)}}
			expectBend(t, wild, s, slope, rest)
			if k == api.KLeaky {
				continue
			}
			for _, a := range append(noSlopes(), 0, oracle.MinusZero(), 1) {
				wild.A = a
				expectBend(t, wild, s, slope, rest)
			}
		}
	}
}

// 13.1: other kinds, and what is none.
func TestNoCurves(t *testing.T) {
	for _, k := range noCurves() {
		for _, s := range append(samples.NoSpans(), between(0, 0), between(-1, 1), between(1, 2), between(-2, -1)) {
			expectNoBend(t, api.Layer{Kind: k}, s)
			expectNoBend(t, api.Layer{Kind: k, KH: 1, KW: 1, SH: 1, SW: 1, A: 1}, s)
		}
	}
}

// 13.1: spans that may not be, of each kind.
func TestNoSpans(t *testing.T) {
	for _, k := range curves() {
		for _, s := range samples.NoSpans() {
			expectNoBend(t, api.Layer{Kind: k, A: 0.5}, s)
		}
	}
}

// 13.1: A that is no number from 0 to 1, also where it would not be asked for.
func TestNoSlopes(t *testing.T) {
	for _, a := range noSlopes() {
		for _, s := range append(samples.NoSpans(), between(-1, 1), between(-2, -1), between(1, 2), between(0, 0)) {
			expectNoBend(t, samples.Leaky(a), s)
		}
	}
}
