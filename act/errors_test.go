package act

import (
	"math"
	"slices"
	"testing"

	"ambit/api"
	"ambit/model"
	"ambit/oracle"
	"ambit/samples"
)

// anyhow are zonotopes of all sorts, of n coordinates as well as of others.
func anyhow(n int) []api.Zono {
	return []api.Zono{samples.WideZono(n, 2), samples.BadZono(n), samples.BadZono(0), samples.WideZono(n+1, 0), {N: n}, {}}
}

// expectRefused holds Step to the bad one of n coordinates for a layer that model refuses by e, whatever zonotope there is.
func expectRefused(t *testing.T, l api.Layer, in api.Shape, e api.Errno, n int) {
	t.Helper()
	if f := model.Layer(l, in); f != e {
		t.Fatalf("Layer of %s over %v: %v, not %v", text(l), in, f, e)
	}
	width, _ := model.Size(in)
	for _, z := range append(anyhow(2), samples.WideZono(max(width, 1), 1)) {
		expectBad(t, z, l, in, n)
	}
}

// 13.2: kinds that are none have no size.
func TestStepOfNoKinds(t *testing.T) {
	for _, k := range []int{0, 13, -1, 14, 256, -api.KRelu, math.MaxInt, math.MinInt} {
		expectRefused(t, kind(k), samples.Line(2), api.ErrKind, 0)
		expectRefused(t, api.Layer{Kind: k, Out: -1, A: math.NaN()}, api.Shape{}, api.ErrKind, 0)
	}
}

// 13.2: fields that may not be, of every kind: there is no size.
func TestFieldsThatMayNotBe(t *testing.T) {
	for _, s := range append(ordinary(), others()...) {
		for _, change := range []func(l *api.Layer){
			func(l *api.Layer) { l.Out = -1 },
			func(l *api.Layer) { l.Out = 257 },
			func(l *api.Layer) { l.KH = 17 },
			func(l *api.Layer) { l.KW = -1 },
			func(l *api.Layer) { l.SH = math.MaxInt },
			func(l *api.Layer) { l.SW = 17 },
			func(l *api.Layer) { l.PH = 16 },
			func(l *api.Layer) { l.PW = math.MinInt },
			func(l *api.Layer) { l.From = 65 },
			func(l *api.Layer) { l.From = -1 },
		} {
			l := s.l
			change(&l)
			expectRefused(t, l, s.in, api.ErrField, 0)
		}
	}
	// What Bend does not look at is looked at here.
	for _, s := range ordinary() {
		l := s.l
		l.From = 1
		expectRefused(t, l, s.in, api.ErrField, 0)
	}
}

// 13.2: A, where there is one and where there is none: there is no size.
func TestFactorsThatMayNotBe(t *testing.T) {
	for _, s := range ordinary() {
		l := s.l
		for _, a := range append(noSlopes(), 1, 0.5, oracle.Least, oracle.MinusZero()) {
			l.A = a
			switch {
			case l.Kind == api.KLeaky && !isNumber(a):
				expectRefused(t, l, s.in, api.ErrNumber, 0)
			case l.Kind != api.KLeaky || a < 0 || a > 1:
				expectRefused(t, l, s.in, api.ErrField, 0)
			}
		}
	}
}

// 13.2: shapes that are none, or that a window does not go with: there is no size.
func TestShapesThatMayNotBe(t *testing.T) {
	for _, s := range append(ordinary(), others()...) {
		for _, in := range []api.Shape{{}, samples.Shape(1, 0, 1), samples.Shape(-1, 1, 1), samples.Line(257), samples.Shape(16, 16, 2), samples.Shape(1<<40, 1<<40, 1<<40)} {
			expectRefused(t, s.l, in, api.ErrShape, 0)
		}
	}
	expectRefused(t, window(3, 1, 1, 1, 0, 0), samples.Shape(1, 2, 5), api.ErrShape, 0)
	expectRefused(t, window(1, 4, 1, 1, 0, 0), samples.Shape(1, 5, 3), api.ErrShape, 0)
	expectRefused(t, window(16, 16, 1, 1, 15, 15), samples.Line(2), api.ErrShape, 0)
}

// 13.2: lists that must not be, or of another length: the size is told all the same.
func TestListsThatMayNotBe(t *testing.T) {
	none := math.NaN()
	for _, s := range append(ordinary(), others()...) {
		for _, change := range []func(l *api.Layer){
			func(l *api.Layer) { l.W = append(slices.Clone(l.W), 1) },
			func(l *api.Layer) { l.B = append(slices.Clone(l.B), none) },
			func(l *api.Layer) { l.Z = append(slices.Clone(l.Z), 1) },
			func(l *api.Layer) { l.ZB = append(slices.Clone(l.ZB), complex(0, none)) },
		} {
			l := s.l
			change(&l)
			expectRefused(t, l, s.in, api.ErrCount, s.width())
		}
		if len(s.l.W) > 0 {
			l := s.l
			l.W = slices.Clone(l.W)
			l.W[0] = none
			expectRefused(t, l, s.in, api.ErrNumber, s.width())
		}
	}
}

// 13.2: linear kinds, KAdd among them: bad, of the size that they tell.
func TestLinearKinds(t *testing.T) {
	if n := len(others()); n != 6 {
		t.Fatalf("%d kinds", n)
	}
	for _, s := range others() {
		for _, z := range append(anyhow(s.size()), samples.WideZono(s.size(), 0), point(make([]float64, s.size())...)) {
			expectBad(t, z, s.l, s.in, s.width())
		}
	}
}

// 13.2: bad ones, whatever they have of coordinates.
func TestStepOfBad(t *testing.T) {
	for _, s := range ordinary() {
		for _, n := range []int{0, 1, s.size(), s.size() + 1, s.width(), 256} {
			expectBad(t, samples.BadZono(n), s.l, s.in, s.width())
		}
		expectBad(t, api.Zono{N: s.size(), Bad: true, C: numbers(), Ids: ids(), G: lists(), R: numbers()}, s.l, s.in, s.width())
	}
}

// 13.2: what is no zonotope.
func TestStepOfNoZonotope(t *testing.T) {
	for _, k := range curves() {
		for _, z := range samples.SpoiltZonos() {
			expectBad(t, z, kind(k), samples.Line(2), 2)
		}
	}
	for _, z := range samples.SpoiltZonos() {
		expectBad(t, z, window(1, 2, 1, 1, 0, 1), samples.Line(2), 3)
	}
	for _, s := range ordinary() {
		z := samples.WideZono(s.size(), 2)
		z.R[s.size()-1] = -1
		expectBad(t, z, s.l, s.in, s.width())
		z = samples.WideZono(s.size(), 2)
		z.Ids[1] = 0
		expectBad(t, z, s.l, s.in, s.width())
		z = samples.WideZono(s.size(), 2)
		z.G[1] = nil
		expectBad(t, z, s.l, s.in, s.width())
	}
}

// 13.2: zonotopes of other coordinates than the shape has.
func TestStepOfOtherCoordinates(t *testing.T) {
	for _, s := range ordinary() {
		for _, n := range []int{1, 2, s.size() - 1, s.size() + 1, 2 * s.size(), 256} {
			expectBad(t, samples.WideZono(n, 2), s.l, s.in, s.width())
		}
		if y := Step(samples.WideZono(s.size(), 2), s.l, s.in); y.Bad || y.N != s.width() {
			t.Errorf("%s", text(y))
		}
	}
}
