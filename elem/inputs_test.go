package elem

import (
	"fmt"
	"math"
	"slices"
	"testing"

	"ambit/api"
	"ambit/oracle"
)

// of is a span as it is written, made by no call.
func of(lo, hi float64) api.Span { return api.Span{Lo: lo, Hi: hi} }

func none() api.Span { return api.Span{Bad: true} }

func same(a, b api.Span) bool {
	return oracle.Same(a.Lo, b.Lo) && oracle.Same(a.Hi, b.Hi) && a.Bad == b.Bad
}

func text(s api.Span) string {
	if s.Bad {
		return fmt.Sprintf("bad (%x, %x)", s.Lo, s.Hi)
	}
	return fmt.Sprintf("[%x, %x]", s.Lo, s.Hi)
}

func expect(t *testing.T, name string, got, want api.Span) {
	t.Helper()
	if !same(got, want) {
		t.Errorf("%s: %s, not %s", name, text(got), text(want))
	}
}

func above(a float64) float64 { return math.Nextafter(a, math.Inf(1)) }
func below(a float64) float64 { return math.Nextafter(a, math.Inf(-1)) }

// A function is one of the five, as it is told, by the chapter's words, and as bounds of its exact value.
type function struct {
	name string
	tell func(x float64) api.Span
	twin func(x float64) api.Span
	real func(v *rat) (low, high *rat)
}

func functions() []function {
	return []function{
		{"Exp", Exp, twinExp, realExp},
		{"Sigmoid", Sigmoid, twinSigmoid, oracle.Sigmoid},
		{"Tanh", Tanh, twinTanh, oracle.Tanh},
		{"SigmoidSlope", SigmoidSlope, twinSigmoidSlope, realSigmoidSlope},
		{"TanhSlope", TanhSlope, twinTanhSlope, realTanhSlope},
	}
}

// at names a call.
func (f function) at(x float64) string { return fmt.Sprintf("%s(%x)", f.name, x) }

// marks are numbers above 0 at which something changes: where the functions leave off, where they come to 0, 1 and Max, and where the bracket's n does.
func marks() []float64 {
	l := []float64{
		400, 800, 709.78, 0x1.62e42fefa39efp9, 709.79, 744.44, 744.45, 745.13, 745.14, 708.39, 708.4, 372.5, 372.6,
		18.3, 18.4, 19.06, 19.07, 30, 36.04, 36.05, 36.7, 36.8, 37.4, 37.5, 354.9, 355, 1000, 1600,
		1.7, math.Sqrt(3), 1.8, 0x1p-27, 0x1p-26, 0x1p-25, 0x1p-62, 0x1p-128, 0x1p-129, 0x1p-191, 0x1p-192, 0x1p-193, 0x1p-320,
	}
	for _, n := range []float64{1, 2, 3, 7, 64, 500, 577, 1023, 1024, 1153, 1154} {
		l = append(l, n*math.Ln2)
	}
	for _, a := range slices.Clone(l) {
		l = append(l, above(a), below(a))
	}
	return l
}

// points are numbers from 0 on: marks, heights, powers of 2 and numbers of every size with one near them.
func points() []float64 {
	l := append(marks(), oracle.Heights()...)
	var m oracle.Mixer
	for n := -1074; n <= 10; n += 9 {
		l = append(l, math.Ldexp(1, n), math.Abs(m.Number(n)))
	}
	for range 60 {
		l = append(l, math.Abs(m.Number(m.Below(14)-6)), float64(m.Below(900000))/1000)
	}
	return l
}

// numbers are the points with both signs, and the nought with a sign.
func numbers() []float64 {
	l := []float64{oracle.MinusZero()}
	for _, a := range points() {
		l = append(l, a, -a)
	}
	return l
}

// rising are the numbers in order.
func rising() []float64 {
	l := numbers()
	slices.Sort(l)
	return l
}
