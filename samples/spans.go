package samples

import (
	"math"
	"slices"

	"ambit/api"
	"ambit/oracle"
)

// Between is a span as it is written, made by no call.
func Between(lo, hi float64) api.Span { return api.Span{Lo: lo, Hi: hi} }

// BadSpan is the bad one, in its one form.
func BadSpan() api.Span { return api.Span{Bad: true} }

// SameSpan tells whether two spans are alike, bit for bit.
func SameSpan(a, b api.Span) bool {
	return oracle.Same(a.Lo, b.Lo) && oracle.Same(a.Hi, b.Hi) && a.Bad == b.Bad
}

func SameSpans(a, b []api.Span) bool { return slices.EqualFunc(a, b, SameSpan) }

// NoSpans are spans that may not be, each in another way.
func NoSpans() []api.Span {
	l := []api.Span{
		{Bad: true}, {Lo: 1, Hi: 2, Bad: true}, {Lo: -2, Hi: -1, Bad: true}, {Lo: -1, Hi: 1, Bad: true}, {Lo: 2, Hi: 1, Bad: true}, {Lo: math.NaN(), Hi: math.Inf(1), Bad: true},
		Between(2, 1), Between(oracle.Least, 0), Between(0, -oracle.Least), Between(oracle.Max, -oracle.Max), Between(1+0x1p-52, 1), Between(1, -1), Between(-1, -2),
		Between(math.Inf(-1), math.Inf(1)), Between(math.Inf(1), math.Inf(-1)),
	}
	for _, a := range oracle.NoNumbers() {
		l = append(l, Between(a, 1), Between(a, 0), Between(-1, a), Between(0, a), Between(a, a))
	}
	return l
}

// MixedSpan is one that may be, of two numbers that are made one by one; often it is a point.
func MixedSpan(m *oracle.Mixer, number func() float64) api.Span {
	a, b := number(), number()
	if m.Below(8) == 0 {
		b = a
	}
	return Between(min(a, b), max(a, b))
}
