package act

import (
	"fmt"
	"math/big"
	"slices"
	"testing"

	"ambit/api"
	"ambit/oracle"
	"ambit/rows"
	"ambit/samples"
	"ambit/zono"
)

// inner are reals of a span: its ends, some between, 0 and half of a slope, if they lie in it.
func inner(s api.Span, slope float64) []*big.Rat {
	lo, hi := oracle.Exact(s.Lo), oracle.Exact(s.Hi)
	all := []*big.Rat{lo, hi}
	for _, share := range []*big.Rat{big.NewRat(1, 1000), big.NewRat(1, 3), big.NewRat(1, 2), big.NewRat(7, 8)} {
		all = append(all, plus(lo, times(share, minus(hi, lo))))
	}
	for _, v := range []*big.Rat{new(big.Rat), half(oracle.Exact(slope))} {
		if v.Cmp(lo) >= 0 && v.Cmp(hi) <= 0 {
			all = append(all, v)
		}
	}
	return all
}

// curveAt are bounds of what a layer of one coordinate tells of a real.
func curveAt(l api.Layer, x *big.Rat) (low, high *big.Rat) {
	a, b := oracle.Bends(l, samples.Line(1), samples.Line(1), []*big.Rat{x})
	return a[0], b[0]
}

// slowly tells whether the bounds of what a layer tells take their time.
func slowly(l api.Layer) bool { return l.Kind == api.KTanh || l.Kind == api.KSigmoid }

// expectHeld holds what Bend tells of a span to the exact function at some reals of it; it tells whether there was anything.
func expectHeld(t *testing.T, l api.Layer, s api.Span) bool {
	t.Helper()
	slope, rest, ok := Bend(l, s)
	if !ok {
		return false
	}
	for _, x := range inner(s, slope) {
		low, high := curveAt(l, x)
		line := times(oracle.Exact(slope), x)
		if minus(low, line).Cmp(oracle.Exact(rest.Lo)) < 0 || minus(high, line).Cmp(oracle.Exact(rest.Hi)) > 0 {
			t.Fatalf("Bend of %s over [%x, %x]: %x [%x, %x], but not at %v", text(l), s.Lo, s.Hi, slope, rest.Lo, rest.Hi, x)
		}
	}
	return true
}

// 13.3: what is left of the exact function without the line lies in the span that is told.
func TestBendHolds(t *testing.T) {
	t.Parallel()
	var m oracle.Mixer
	seen := map[int]int{}
	for i := range 5000 {
		l := api.Layer{Kind: curves()[i%5]}
		if l.Kind == api.KLeaky {
			l.A = someSlope(&m)
		}
		if i > 1600 && slowly(l) {
			continue
		}
		if expectHeld(t, l, someSpan(&m)) {
			seen[l.Kind]++
		}
	}
	for _, k := range curves() {
		if seen[k] < 300 {
			t.Errorf("the kind %d came up %d times only", k, seen[k])
		}
	}
}

// 13.3: likewise at the edges of the numbers.
func TestBendHoldsAtEdges(t *testing.T) {
	t.Parallel()
	all := oracle.Edges()
	for i, a := range all {
		for j, b := range all {
			for _, l := range []api.Layer{samples.Relu(), samples.Leaky(0.1), kind(api.KSquare)} {
				expectHeld(t, l, between(a, b))
			}
			if (i+5*j)%17 == 0 {
				expectHeld(t, kind(api.KTanh), between(a, b))
				expectHeld(t, kind(api.KSigmoid), between(a, b))
			}
		}
	}
}

// 13.1: slopes of KRelu lie from 0 to 1, those of KLeaky from A to 1, those of the rising functions are 0 or above; rests are spans that may be.
func TestSlopesLieWithin(t *testing.T) {
	var m oracle.Mixer
	for range 6000 {
		l, s := api.Layer{Kind: curves()[m.Below(5)], A: someSlope(&m)}, someSpan(&m)
		slope, rest, ok := Bend(l, s)
		if !ok && l.Kind != api.KSquare {
			t.Fatalf("no bend of %s over %v", text(l), s)
		}
		if rest.Bad || rest.Lo > rest.Hi {
			t.Fatalf("Bend of %s over %v: %v", text(l), s, rest)
		}
		least, most := 0.0, 1.0
		switch l.Kind {
		case api.KLeaky:
			least = l.A
		case api.KSquare:
			least, most = -oracle.Max, oracle.Max
		}
		if slope < least || slope > most {
			t.Fatalf("Bend of %s over %v: the slope %v", text(l), s, slope)
		}
	}
}

// laws goes through layers and zonotopes, each with its step; it tells how many of each kind were not bad.
func laws(rounds int, law func(m *oracle.Mixer, z api.Zono, s sample, y api.Zono)) map[int]int {
	var m oracle.Mixer
	good := map[int]int{}
	for range rounds {
		s := someLayer(&m)
		z := someZono(&m, s.size())
		if y := Step(z, s.l, s.in); !y.Bad {
			good[s.l.Kind]++
			law(&m, z, s, y)
		}
	}
	return good
}

// 13.4: with the same values for all Ids, what the layer tells exactly lies no farther than R' from where the answer's columns put it.
func TestStepHoldsPoints(t *testing.T) {
	t.Parallel()
	good := laws(1200, func(m *oracle.Mixer, z api.Zono, s sample, y api.Zono) {
		points := 3
		if slowly(s.l) {
			points = 1
		}
		for range points {
			e := map[int]*big.Rat{}
			for _, id := range z.Ids {
				e[id] = m.Share()
			}
			x := oracle.Spread(z, e)
			for j, r := range z.R {
				x[j] = plus(x[j], times(m.Share(), oracle.Exact(r)))
			}
			put := oracle.Spread(y, e)
			low, high := oracle.Bends(s.l, s.in, s.told(), x)
			for i, r := range y.R {
				if minus(put[i], low[i]).Cmp(oracle.Exact(r)) > 0 || minus(high[i], put[i]).Cmp(oracle.Exact(r)) > 0 {
					t.Fatalf("%s by %s to %s: at %v the coordinate %d is farther off", text(z), text(s.l), text(y), e, i)
				}
			}
		}
	})
	for _, k := range bends() {
		if good[k] < 60 {
			t.Errorf("%d steps of the kind %d only", good[k], k)
		}
	}
}

// 13.4: an Id keeps its value through a step: columns of two steps cancel each other.
func TestIdsHangTogether(t *testing.T) {
	z := of(numbers(9, -3), ids(4, 7), lists(numbers(3, 0), numbers(2, 1)), numbers(0, 0))
	a := Step(z, samples.Relu(), samples.Line(2))
	turned := of(numbers(-9, 3), ids(4, 7), lists(numbers(-3, 0), numbers(-2, -1)), numbers(0, 0))
	b := Step(turned, samples.Leaky(1), samples.Line(2))
	if sum := zono.Plus(a, b); !samples.SameZono(sum, of(numbers(0, 3), ids(7), lists(numbers(0, -1)), numbers(0, 0))) {
		t.Errorf("%s and %s make %s", text(a), text(b), text(sum))
	}
}

// columnAt is z's number of an Id at a coordinate: 0, if z has not that Id.
func columnAt(z api.Zono, id, i int) float64 {
	if k := slices.Index(z.Ids, id); k >= 0 {
		return z.G[k][i]
	}
	return 0
}

// expectCopied holds a coordinate to that of z, times a slope by which nothing is lost.
func expectCopied(t *testing.T, z api.Zono, k int, slope float64, y api.Zono, i int) {
	t.Helper()
	if y.C[i] != slope*z.C[k] || y.R[i] != slope*z.R[k] {
		t.Fatalf("%s at %d to %s at %d: centre or box is not %v of it", text(z), k, text(y), i, slope)
	}
	for c, id := range z.Ids {
		if columnAt(y, id, i) != slope*z.G[c][k] {
			t.Fatalf("%s at %d to %s at %d: the column %d is not %v of it", text(z), k, text(y), i, id, slope)
		}
	}
}

// 13.5: a KRelu over spans on one side of 0: R' is R, or 0, and nothing else is changed.
func TestReluOnOneSideLosesNothing(t *testing.T) {
	seen := oracle.Tally{}
	var m oracle.Mixer
	for range 3000 {
		n := 1 + m.Below(4)
		z := someZono(&m, n)
		y := Step(z, samples.Relu(), samples.Line(n))
		if y.Bad {
			continue
		}
		for i, s := range zono.Bounds(z) {
			switch {
			case s.Hi <= 0:
				expectCopied(t, z, i, 0, y, i)
				seen["below"]++
			case s.Lo >= 0:
				expectCopied(t, z, i, 1, y, i)
				seen["above"]++
			}
		}
	}
	seen.Expect(t, 300, "below", "above")
}

// 13.5: a KLeaky likewise: where the products are numbers R' is the slope's part of R, and where they are not it is more by at most what the roundings lose.
func TestLeakyOnOneSideLosesNoMore(t *testing.T) {
	seen := oracle.Tally{}
	var m oracle.Mixer
	for range 3000 {
		n := 1 + m.Below(4)
		z, l := tameZono(&m, n), samples.Leaky([]float64{0, 0.25, 0.5, 1, 0.1}[m.Below(5)])
		y := Step(z, l, samples.Line(n))
		for i, s := range zono.Bounds(z) {
			switch {
			case s.Hi <= 0 && l.A != 0.1:
				expectCopied(t, z, i, l.A, y, i)
				seen["exactly"]++
			case s.Hi <= 0:
				slope := oracle.Exact(l.A)
				most := plus(times(slope, oracle.Exact(z.R[i])), size(minus(oracle.Exact(y.C[i]), times(slope, oracle.Exact(z.C[i])))))
				for k, id := range z.Ids {
					most = plus(most, size(minus(oracle.Exact(columnAt(y, id, i)), times(slope, oracle.Exact(z.G[k][i])))))
				}
				if y.R[i] != rounded(api.Up, most) {
					t.Fatalf("%s by %s: %s at %d has more than what was lost", text(z), text(l), text(y), i)
				}
				seen["nearly"]++
			case s.Lo >= 0:
				expectCopied(t, z, i, 1, y, i)
				seen["above"]++
			}
		}
	}
	seen.Expect(t, 200, "exactly", "nearly", "above")
}

// 13.5: a KMax with a greatest input is a copy of it.
func TestMaxWithAGreatestLosesNothing(t *testing.T) {
	t.Parallel()
	seen := oracle.Tally{}
	laws(8000, func(m *oracle.Mixer, z api.Zono, s sample, y api.Zono) {
		if s.l.Kind != api.KMax {
			return
		}
		spans := zono.Bounds(z)
		for i := range y.N {
			places, _ := rows.Window(s.l, s.in, i)
			first := slices.IndexFunc(places, func(k int) bool {
				return !slices.ContainsFunc(places, func(j int) bool { return j != k && spans[k].Lo < spans[j].Hi })
			})
			if first >= 0 {
				expectCopied(t, z, places[first], 1, y, i)
				seen.Note("of several", len(places) > 1)
				seen.Note("of one", len(places) == 1)
			} else {
				seen["none"]++
			}
		}
	})
	seen.Expect(t, 200, "of several", "of one", "none")
}

// 13.2: a step is a bend of each coordinate, and no coordinate looks at another.
func TestCoordinatesStandAlone(t *testing.T) {
	laws(600, func(m *oracle.Mixer, z api.Zono, s sample, y api.Zono) {
		if s.l.Kind == api.KMax {
			return
		}
		for i := range z.N {
			alone, want := of(z.C[i:i+1], z.Ids, nil, z.R[i:i+1]), of(y.C[i:i+1], nil, nil, y.R[i:i+1])
			for k, id := range z.Ids {
				alone.G = append(alone.G, z.G[k][i:i+1])
				if a := columnAt(y, id, i); a != 0 {
					want.Ids, want.G = append(want.Ids, id), append(want.G, numbers(a))
				}
			}
			expectStep(t, alone, s.l, samples.Line(1), want)
		}
	})
}

// 13.6: whatever is handed in, a call ends, and answers what may be answered, twice the same.
func TestAnythingEnds(t *testing.T) {
	var m oracle.Mixer
	seen := oracle.Tally{}
	for range 8000 {
		z, n := samples.AnyZono(&m), samples.AnyNet(&m)
		l, in := samples.Relu(), n.In
		if len(n.Layers) > 0 {
			l = n.Layers[0]
		}
		if m.Below(2) == 0 {
			s := someLayer(&m)
			l, in = s.l, s.in
			if m.Below(2) == 0 {
				z = someZono(&m, s.size())
			}
		}
		y, again := Step(z, l, in), Step(z, l, in)
		if !samples.SameZono(y, again) || zono.Check(y) != api.OK {
			t.Fatalf("Step of %s by %s over %v: %s and %s", text(z), text(l), in, text(y), text(again))
		}
		if width, _ := rows.Count(l, in); y.N != width {
			t.Fatalf("Step of %s by %s over %v has %d coordinates, not %d", text(z), text(l), in, y.N, width)
		}
		for _, list := range append(slices.Clone(y.G), y.C, y.R) {
			if slices.ContainsFunc(list, func(a float64) bool { return oracle.Same(a, oracle.MinusZero()) }) {
				t.Fatalf("%s tells a nought with a sign", text(y))
			}
		}
		seen.Note("bad of none", y.Bad && y.N == 0)
		seen.Note("bad of some", y.Bad && y.N > 0)
		seen.Note("good", !y.Bad)
	}
	seen.Expect(t, 500, "bad of none", "bad of some", "good")
}

// 13.6: likewise of Bend.
func TestAnyBendEnds(t *testing.T) {
	var m oracle.Mixer
	seen := oracle.Tally{}
	for range 20000 {
		l := api.Layer{Kind: samples.AnyWhole(&m), A: api.Float(m.Word())}
		if m.Below(2) == 0 {
			l = api.Layer{Kind: curves()[m.Below(5)], A: someSlope(&m)}
		}
		s := api.Span{Lo: api.Float(m.Word()), Hi: api.Float(m.Word()), Bad: m.Below(9) == 0}
		slope, rest, ok := Bend(l, s)
		again, more, is := Bend(l, s)
		if !oracle.Same(slope, again) || !samples.SameSpan(rest, more) || ok != is || rest.Bad || !isNumber(slope) || !isNumber(rest.Lo) || !isNumber(rest.Hi) {
			t.Fatalf("Bend of %s over %v: %v %v %v and %v %v %v", text(l), s, slope, rest, ok, again, more, is)
		}
		for _, a := range numbers(slope, rest.Lo, rest.Hi) {
			if oracle.Same(a, oracle.MinusZero()) || !ok && a != 0 {
				t.Fatalf("Bend of %s over %v: %v %v %v", text(l), s, slope, rest, ok)
			}
		}
		seen.Note(fmt.Sprint(ok), true)
	}
	seen.Expect(t, 1000, "true", "false")
}

// 13.1, 13.2, Numbers: the sign of a nought turns nothing.
func TestSignsOfNoughtsTurnNothing(t *testing.T) {
	flip := func(l []float64) []float64 {
		all := slices.Clone(l)
		for i, a := range all {
			if a == 0 {
				all[i] = -a
			}
		}
		return all
	}
	laws(800, func(m *oracle.Mixer, z api.Zono, s sample, y api.Zono) {
		p := of(flip(z.C), z.Ids, nil, flip(z.R))
		for _, g := range z.G {
			p.G = append(p.G, flip(g))
		}
		l := s.l
		if l.Kind == api.KLeaky {
			l.A = flip(numbers(l.A))[0]
		}
		expectStep(t, p, l, s.in, y)
	})
}
