package zono

import (
	"fmt"
	"testing"

	"ambit/api"
	"ambit/oracle"
	"ambit/samples"
)

func numbers(l ...float64) []float64 { return l }

func ids(l ...int) []int { return l }

func lists(l ...[]float64) [][]float64 { return l }

// of is a zonotope as it is written, made by no call.
func of(c []float64, ids []int, g [][]float64, r []float64) api.Zono {
	return samples.Zonotope(c, ids, g, r)
}

// point is one without columns and box.
func point(c ...float64) api.Zono { return of(c, nil, nil, make([]float64, len(c))) }

// first is the one of the chapter's examples.
func first() api.Zono {
	return of(numbers(1, 2), ids(0, 3), lists(numbers(1, 0), numbers(1, -1)), numbers(0, 0.5))
}

// along is the direction of n coordinates that has a at i, and 0 elsewhere.
func along(n, i int, a float64) []float64 {
	d := make([]float64, n)
	d[i] = a
	return d
}

func text(z api.Zono) string { return fmt.Sprintf("%+v", z) }

func expect(t *testing.T, name string, got, want api.Zono) {
	t.Helper()
	if !samples.SameZono(got, want) {
		t.Errorf("%s: %s, not %s", name, text(got), text(want))
	}
}

func expectCheck(t *testing.T, z api.Zono, want api.Errno) {
	t.Helper()
	if e := Check(z); e != want {
		t.Errorf("Check of %s: %d, not %d", text(z), e, want)
	}
}

func expectSpans(t *testing.T, name string, got, want []api.Span) {
	t.Helper()
	if !samples.SameSpans(got, want) {
		t.Errorf("%s: %v, not %v", name, got, want)
	}
}

func expectSupport(t *testing.T, z api.Zono, d []float64, want float64, is bool) {
	t.Helper()
	if got, ok := Support(z, d); ok != is || !oracle.Same(got, want) {
		t.Errorf("Support of %s at %x: %x %v, not %x %v", text(z), d, got, ok, want, is)
	}
}

func expectLift(t *testing.T, z api.Zono, next int, want api.Zono, behind int) {
	t.Helper()
	got, n := Lift(z, next)
	if n != behind || !samples.SameZono(got, want) {
		t.Errorf("Lift of %s from %d on: %s and %d, not %s and %d", text(z), next, text(got), n, text(want), behind)
	}
}

// expectPlus holds Plus to an answer, in both orders.
func expectPlus(t *testing.T, a, b, want api.Zono) {
	t.Helper()
	name := fmt.Sprintf("Plus of %s and %s", text(a), text(b))
	expect(t, name, Plus(a, b), want)
	expect(t, name+", the other way", Plus(b, a), want)
}

// expectSame holds Same to an answer, in both orders.
func expectSame(t *testing.T, a, b api.Zono, want bool) {
	t.Helper()
	if Same(a, b) != want || Same(b, a) != want {
		t.Errorf("Same of %s and %s is not %v", text(a), text(b), want)
	}
}

// ordinary are zonotopes that may be, with noughts of either sign among their numbers.
func ordinary() []api.Zono {
	minus := oracle.MinusZero()
	return []api.Zono{
		first(),
		point(0), point(minus), point(oracle.Max), point(-oracle.Max), point(1, 2, 3),
		of(numbers(minus), nil, nil, numbers(minus)),
		of(numbers(0), ids(0), lists(numbers(0)), numbers(0)),
		of(numbers(minus, 1), ids(0, 1), lists(numbers(minus, 0), numbers(0, minus)), numbers(minus, 0)),
		of(numbers(1), ids(api.MaxId), lists(numbers(-1)), numbers(2)),
		of(numbers(1, -1), ids(0, api.MaxId-1, api.MaxId), lists(numbers(-1, minus), numbers(3, 4), numbers(minus, 5)), numbers(2, minus)),
		of(numbers(oracle.Least), ids(5), lists(numbers(-oracle.Least)), numbers(oracle.Least)),
		of(numbers(oracle.Max), ids(0, 1), lists(numbers(oracle.Max), numbers(-oracle.Max)), numbers(oracle.Max)),
		samples.WideZono(1, 600), samples.WideZono(256, 3), samples.WideZono(256, 0), samples.RoomyZono(),
	}
}
