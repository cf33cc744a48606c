package lin

import (
	"math"
	"slices"
	"testing"

	"ambit/api"
	"ambit/model"
	"ambit/oracle"
	"ambit/samples"
)

// noCrews are numbers of workers that may not be.
func noCrews() []int {
	return []int{0, -1, -16, 17, 18, 256, 1 << 32, -1 << 32, 1<<32 + 1, math.MaxInt, math.MinInt}
}

// anyhow are zonotopes of all sorts, of n coordinates as well as of others.
func anyhow(n int) []api.Zono {
	return []api.Zono{samples.WideZono(n, 2), samples.BadZono(n), samples.BadZono(0), samples.WideZono(n+1, 0), {N: n}, {}}
}

// expectRefused holds Step to an error that model tells of a layer, whatever zonotope there is.
func expectRefused(t *testing.T, l api.Layer, in api.Shape, e api.Errno) {
	t.Helper()
	if f := model.Layer(l, in); f != e {
		t.Fatalf("Layer of %s over %v: %v, not %v", text(l), in, f, e)
	}
	for _, z := range anyhow(2) {
		expectNoStep(t, z, l, in, 1, e)
		expectNoStep(t, z, l, in, 16, e)
	}
}

// 12.2: 1 to MaxWorkers, and no others; ahead of everything else.
func TestCrewsOutOfBounds(t *testing.T) {
	for _, workers := range noCrews() {
		for _, s := range append(ordinary(), others()...) {
			for _, z := range anyhow(s.size()) {
				expectNoStep(t, z, s.l, s.in, workers, api.ErrArg)
			}
			expectNoStep(t, samples.BadZono(1), s.l, api.Shape{}, workers, api.ErrArg)
			s.l.Kind = 13
			expectNoStep(t, samples.BadZono(1), s.l, s.in, workers, api.ErrArg)
		}
	}
	for workers := 1; workers <= api.MaxWorkers; workers++ {
		for _, s := range ordinary() {
			if y, e := Step(samples.WideZono(s.size(), 2), s.l, s.in, workers); e != api.OK || y.Bad {
				t.Errorf("%d: %s %v", workers, text(y), e)
			}
		}
	}
}

// 12.2: kinds that are none.
func TestNoKinds(t *testing.T) {
	for _, kind := range []int{0, 13, -1, 14, 256, math.MaxInt, math.MinInt} {
		expectRefused(t, api.Layer{Kind: kind}, samples.Line(2), api.ErrKind)
		expectRefused(t, api.Layer{Kind: kind, Out: -1, A: math.NaN()}, api.Shape{}, api.ErrKind)
	}
}

// 12.2: fields that may not be, of every kind; ahead of shapes and lists.
func TestFieldsThatMayNotBe(t *testing.T) {
	for _, s := range append(ordinary(), others()...) {
		for _, change := range []func(l *api.Layer){
			func(l *api.Layer) { l.Out = -1 },
			func(l *api.Layer) { l.Out = 257 },
			func(l *api.Layer) { l.KH = 17 },
			func(l *api.Layer) { l.KW = -1 },
			func(l *api.Layer) { l.SH = math.MaxInt },
			func(l *api.Layer) { l.SW = 17 },
			func(l *api.Layer) { l.PH = 16 },
			func(l *api.Layer) { l.PW = math.MinInt },
			func(l *api.Layer) { l.From = 65 },
			func(l *api.Layer) { l.From = -1 },
		} {
			l := s.l
			change(&l)
			expectRefused(t, l, s.in, api.ErrField)
			l.W, l.B, l.Z, l.ZB = numbers(math.NaN()), nil, nil, nil
			expectRefused(t, l, api.Shape{}, api.ErrField)
		}
	}
}

// 12.2: A, where there is one and where there is none.
func TestFactorsThatMayNotBe(t *testing.T) {
	for _, s := range append(ordinary(), others()...) {
		l := s.l
		for _, none := range oracle.NoNumbers() {
			l.A = none
			if l.Kind == api.KMean || l.Kind == api.KLeaky {
				expectRefused(t, l, s.in, api.ErrNumber)
			} else {
				expectRefused(t, l, s.in, api.ErrField)
			}
		}
		if l.Kind != api.KMean && l.Kind != api.KLeaky {
			for _, a := range numbers(1, oracle.MinusZero(), oracle.Least) {
				l.A = a
				expectRefused(t, l, s.in, api.ErrField)
			}
		}
	}
}

// 12.2: shapes that are none, that a layer does not go with, or that it may not tell; ahead of lists.
func TestShapesThatMayNotBe(t *testing.T) {
	for _, s := range append(ordinary(), others()...) {
		for _, in := range []api.Shape{{}, samples.Shape(1, 0, 1), samples.Shape(-1, 1, 1), samples.Line(257), samples.Shape(16, 16, 2), samples.Shape(1<<40, 1<<40, 1<<40)} {
			expectRefused(t, s.l, in, api.ErrShape)
		}
	}
	expectRefused(t, turn([]complex128{1}, []complex128{0}), samples.Line(3), api.ErrShape)
	expectRefused(t, samples.Turn(1), samples.Line(1), api.ErrShape)
	expectRefused(t, mean(1, 3, 1, 1, 1, 0, 0), samples.Shape(1, 2, 5), api.ErrShape)
	expectRefused(t, samples.Windowed(api.KConv, 1, 4, 1, 1, 0, 0), samples.Shape(1, 5, 3), api.ErrShape)
	expectRefused(t, samples.Windowed(api.KConv, 16, 16, 1, 1, 15, 15), samples.Line(2), api.ErrShape)
	expectRefused(t, mean(1, 16, 16, 1, 1, 15, 15), samples.Line(2), api.ErrShape)
}

// 12.2: lists of another length, and nil ones; ahead of numbers.
func TestListsOfOtherLengths(t *testing.T) {
	none, pair := math.NaN(), complex(math.NaN(), 0)
	refused := 0
	for _, s := range append(ordinary(), others()...) {
		for _, change := range []func(l *api.Layer){
			func(l *api.Layer) { l.W = append(slices.Clone(l.W), none) },
			func(l *api.Layer) { l.B = append(slices.Clone(l.B), none) },
			func(l *api.Layer) { l.Z = append(slices.Clone(l.Z), pair) },
			func(l *api.Layer) { l.ZB = append(slices.Clone(l.ZB), pair) },
			func(l *api.Layer) { l.W = nil },
			func(l *api.Layer) { l.B = nil },
			func(l *api.Layer) { l.Z = nil },
			func(l *api.Layer) { l.ZB = nil },
			func(l *api.Layer) { l.W = l.W[:max(len(l.W)-1, 0)] },
			func(l *api.Layer) { l.B = l.B[:max(len(l.B)-1, 0)] },
			func(l *api.Layer) { l.Z = l.Z[:max(len(l.Z)-1, 0)] },
			func(l *api.Layer) { l.ZB = l.ZB[:max(len(l.ZB)-1, 0)] },
		} {
			l := s.l
			change(&l)
			// A list that must be empty is no other when it is made shorter.
			if model.Layer(l, s.in) != api.OK {
				refused++
				expectRefused(t, l, s.in, api.ErrCount)
			}
		}
	}
	if refused != 12*4+4*4 {
		t.Errorf("%d were refused", refused)
	}
}

// 12.2: what is no number, at every place of every list.
func TestListsWithNoNumbers(t *testing.T) {
	for _, s := range ordinary() {
		for _, none := range oracle.NoNumbers()[:4] {
			for i := range s.l.W {
				l := s.l
				l.W = slices.Clone(l.W)
				l.W[i] = none
				expectRefused(t, l, s.in, api.ErrNumber)
			}
			for i := range s.l.B {
				l := s.l
				l.B = slices.Clone(l.B)
				l.B[i] = none
				expectRefused(t, l, s.in, api.ErrNumber)
			}
			for i := range s.l.Z {
				l := s.l
				l.Z = slices.Clone(l.Z)
				l.Z[i] = complex(1, none)
				expectRefused(t, l, s.in, api.ErrNumber)
			}
			for i := range s.l.ZB {
				l := s.l
				l.ZB = slices.Clone(l.ZB)
				l.ZB[i] = complex(none, 1)
				expectRefused(t, l, s.in, api.ErrNumber)
			}
		}
	}
}

// 12.2: ErrKind, behind what model refuses, and ahead of zonotopes: of KAdd and each bent kind.
func TestKindsWithoutRows(t *testing.T) {
	if n := len(others()); n != 7 {
		t.Fatalf("%d kinds", n)
	}
	for _, s := range others() {
		for _, z := range anyhow(s.size()) {
			for _, workers := range crews() {
				expectNoStep(t, z, s.l, s.in, workers, api.ErrKind)
			}
		}
	}
}
