package elem

import (
	"math"
	"math/big"
	"testing"

	"ambit/api"
	"ambit/oracle"
)

// A kind is one of the two, with its function and its slope.
type kind struct {
	number       int
	value, slope function
}

func kinds() []kind {
	l := functions()
	return []kind{{api.KTanh, l[2], l[4]}, {api.KSigmoid, l[1], l[3]}}
}

// spans are good ones: points, about 0, beside it, neighbours, and anything else.
func spans() []api.Span {
	minus := oracle.MinusZero()
	l := []api.Span{of(minus, minus), of(0, minus), of(minus, 1), of(-1, minus), of(-oracle.Max, oracle.Max), of(-1, 2), of(-2, 1), of(-900, -850), of(850, oracle.Max), of(-401, 399)}
	all := rising()
	var m oracle.Mixer
	for i, x := range all {
		if i%5 == 0 {
			l = append(l, of(x, x), of(-math.Abs(x), math.Abs(x)), of(x, min(above(x), oracle.Max)))
		}
		z := all[m.Below(len(all))]
		l = append(l, of(min(x, z), max(x, z)))
	}
	return l
}

// bads are spans that are bad, each in another way.
func bads() []api.Span {
	l := []api.Span{
		none(), {Lo: 1, Hi: 2, Bad: true}, {Lo: 2, Hi: 1, Bad: true}, {Lo: math.NaN(), Hi: math.Inf(1), Bad: true},
		of(2, 1), of(oracle.Least, 0), of(0, -oracle.Least), of(oracle.Max, -oracle.Max), of(1+0x1p-52, 1), of(1, -1),
		of(math.Inf(-1), math.Inf(1)), of(math.Inf(1), math.Inf(-1)),
	}
	for _, a := range oracle.NoNumbers() {
		l = append(l, of(a, 1), of(-1, a), of(a, a))
	}
	return l
}

// 5.5
func TestOf(t *testing.T) {
	for _, k := range kinds() {
		for _, s := range spans() {
			want := of(k.value.tell(s.Lo).Lo, k.value.tell(s.Hi).Hi)
			expect(t, "Of, "+named(k.number, s), Of(k.number, s), want)
		}
	}
}

// 5.5
func TestLeast(t *testing.T) {
	for _, k := range kinds() {
		for _, s := range spans() {
			want := min(k.slope.tell(s.Lo).Lo, k.slope.tell(s.Hi).Lo)
			if got, ok := Least(k.number, s); !ok || !oracle.Same(got, want) {
				t.Errorf("Least, %s: %x, %v", named(k.number, s), got, ok)
			}
		}
	}
}

// 5.5: bad spans of both kinds, and good ones of all that are neither.
func TestOverRefuses(t *testing.T) {
	refused := func(number int, s api.Span) {
		t.Helper()
		expect(t, "Of, "+named(number, s), Of(number, s), none())
		if a, ok := Least(number, s); ok || !oracle.Same(a, 0) {
			t.Errorf("Least, %s: %x, %v", named(number, s), a, ok)
		}
	}
	for _, k := range kinds() {
		for _, s := range bads() {
			refused(k.number, s)
		}
	}
	for _, number := range []int{api.KDense, api.KConv, api.KScale, api.KMean, api.KAdd, api.KTurn, api.KRelu, api.KLeaky, api.KSquare, api.KMax, 0, -1, -api.KTanh, 13, math.MaxInt, math.MinInt} {
		for _, s := range append(bads(), of(0, 1), of(0, 0), of(-3, 3)) {
			refused(number, s)
		}
	}
}

// inner are reals that lie in a good span, rising: its ends, and some between.
func inner(s api.Span) []*rat {
	lo, hi := oracle.Exact(s.Lo), oracle.Exact(s.Hi)
	width := minus(hi, lo)
	var l []*rat
	for _, t := range []*rat{new(rat), big.NewRat(1, 1000), big.NewRat(1, 3), big.NewRat(3, 4), big.NewRat(1, 1)} {
		l = append(l, plus(lo, times(width, t)))
	}
	return l
}

// near are the spans of numbers whose functions' bounds can be reckoned.
func near() []api.Span {
	var l []api.Span
	for i, s := range spans() {
		if i%4 == 0 && s.Lo >= -900 && s.Hi <= 900 {
			l = append(l, s)
		}
	}
	return l
}

// 5.10
func TestOverHolds(t *testing.T) {
	for _, k := range kinds() {
		t.Run(k.value.name, func(t *testing.T) {
			t.Parallel()
			for _, s := range near() {
				all := Of(k.number, s)
				least, _ := Least(k.number, s)
				slope := oracle.Exact(least)
				var from, high *rat
				for _, v := range inner(s) {
					low, top := k.value.real(v)
					if !holds(all, low, top) {
						t.Errorf("Of, %s is %s", named(k.number, s), text(all))
					}
					if flat, _ := k.slope.real(v); least < 0 || flat.Cmp(slope) < 0 {
						t.Errorf("Least, %s is %x", named(k.number, s), least)
					}
					if from != nil && from.Cmp(v) < 0 && minus(low, high).Cmp(times(slope, minus(v, from))) < 0 {
						t.Errorf("Least, %s is %x: the function rises less", named(k.number, s), least)
					}
					from, high = v, top
				}
			}
		})
	}
}
