package walk

import (
	"testing"

	"ambit/api"
	"ambit/oracle"
	"ambit/samples"
)

func expectPoints(t *testing.T, x []float64, want []api.Span) {
	t.Helper()
	if got := Points(x); !samples.SameSpans(got, want) {
		t.Errorf("Points(%x): %s, not %s", x, text(got), text(want))
	}
}

// 15.1: every number keeps its value, a nought loses its sign.
func TestPointsOfNumbers(t *testing.T) {
	for _, a := range oracle.Edges() {
		expectPoints(t, numbers(a), points(a+0))
		expectPoints(t, numbers(-3, a, a, 0.1), points(-3, a+0, a+0, 0.1))
	}
	expectPoints(t, numbers(oracle.MinusZero(), 0), points(0, 0))
}

// 15.1: what is no number is bad, and those beside it are not.
func TestPointsOfNoNumbers(t *testing.T) {
	for _, a := range oracle.NoNumbers() {
		expectPoints(t, numbers(a), bads(1))
		expectPoints(t, numbers(oracle.Max, a, -1), join(points(oracle.Max), bads(1), points(-1)))
	}
	expectPoints(t, oracle.NoNumbers(), bads(len(oracle.NoNumbers())))
}

// 15.1: no numbers, and more than a network takes.
func TestPointsOfFewAndMany(t *testing.T) {
	expectPoints(t, nil, nil)
	expectPoints(t, numbers(), nil)
	all := samples.Counted(1000)
	var want []api.Span
	for _, a := range all {
		want = append(want, samples.Between(a+0, a+0))
	}
	expectPoints(t, all, want)
}
