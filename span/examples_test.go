package span

import (
	"math"
	"testing"

	"ambit/api"
	"ambit/oracle"
)

// The examples of the chapter, one by one (4.1 to 4.4).
func TestExamples(t *testing.T) {
	const e, max = oracle.Least, oracle.Max
	minus := oracle.MinusZero()
	for i, l := range [][2]api.Span{
		{Make(2, 1), none()},
		{Make(math.NaN(), 1), none()},
		{Make(minus, minus), of(0, 0)},
		{Add(of(1, 2), of(0x1p-53, 0x1p-53)), of(1, 2+0x1p-51)},
		{Sub(of(1, 2), of(1, 2)), of(-1, 1)},
		{Mul(of(-2, 3), of(-5, 7)), of(-15, 21)},
		{Mul(of(-e, e), of(0.5, 0.5)), of(-e, e)},
		{Div(of(1, 2), of(3, 4)), of(0.25, 0x1.5555555555556p-1)},
		{Div(of(1, 1), of(-1, 1)), none()},
		{Div(of(0, 0), of(0, 1)), none()},
		{Square(of(-3, 2)), of(0, 9)},
		{Square(of(-e, e)), of(0, e)},
		{Max(of(1, 5), of(2, 3)), of(2, 5)},
		{Meet(of(1, 2), of(3, 4)), none()},
		{Meet(of(1, 3), of(2, 4)), of(2, 3)},
		{Add(of(max, max), of(max, max)), none()},
		{Scale(of(1, 2), 2000), none()},
		{Scale(of(1, 2), -2000), of(0, e)},
		{Dot([]float64{1, -1}, []api.Span{of(1, 2), of(1, 2)}), of(-1, 1)},
		{Dot([]float64{1}, nil), none()},
	} {
		if !same(l[0], l[1]) {
			t.Errorf("example %d: %s, not %s", i, text(l[0]), text(l[1]))
		}
	}
}

// The chapter's examples of what is asked of a span (4.5, 4.6).
func TestExamplesOfAsking(t *testing.T) {
	got, ok := Width(of(1, 3))
	expectNumber(t, "Width", got, ok, 2, true)
	got, ok = Middle(of(1, 2))
	expectNumber(t, "Middle", got, ok, 1.5, true)
	got, ok = Middle(of(-oracle.Max, oracle.Max))
	expectNumber(t, "Middle of all", got, ok, 0, true)
	if !Has(of(1, 2), 2) || !Inside(of(1, 2), of(1, 2)) || Has(none(), 1) {
		t.Error("Has or Inside")
	}
}
