package span

import (
	"math"
	"math/big"
	"testing"

	"ambit/api"
	"ambit/oracle"
)

// A call is one of those that hold all results of two reals, or of the first one alone.
type call struct {
	name  string
	alone bool
	span  func(a, b api.Span) api.Span
	real  func(x, y *big.Rat) *big.Rat
}

func calls() []call {
	l := []call{
		{"Add", false, Add, func(x, y *big.Rat) *big.Rat { return new(big.Rat).Add(x, y) }},
		{"Sub", false, Sub, func(x, y *big.Rat) *big.Rat { return new(big.Rat).Sub(x, y) }},
		{"Mul", false, Mul, func(x, y *big.Rat) *big.Rat { return new(big.Rat).Mul(x, y) }},
		{"Div", false, Div, func(x, y *big.Rat) *big.Rat { return new(big.Rat).Quo(x, y) }},
		{"Max", false, Max, greater},
		{"Neg", true, func(a, _ api.Span) api.Span { return Neg(a) }, func(x, _ *big.Rat) *big.Rat { return new(big.Rat).Neg(x) }},
		{"Square", true, func(a, _ api.Span) api.Span { return Square(a) }, func(x, _ *big.Rat) *big.Rat { return new(big.Rat).Mul(x, x) }},
	}
	for _, n := range []int{0, 1, -1, 1000, -1000, -1074} {
		l = append(l, scaling(n))
	}
	return l
}

// scaling is Scale by n, which may be as far as an exact fraction goes.
func scaling(n int) call {
	return call{"Scale", true,
		func(a, _ api.Span) api.Span { return Scale(a, n) },
		func(x, _ *big.Rat) *big.Rat { return new(big.Rat).Mul(x, oracle.Power(n)) },
	}
}

func greater(x, y *big.Rat) *big.Rat {
	if x.Cmp(y) < 0 {
		return y
	}
	return x
}

// defined tells whether there is a result for all reals of b.
func (c call) defined(b api.Span) bool { return c.name != "Div" || !between(new(big.Rat), b) }

func (c call) at(a, b api.Span) string { return c.name + " of " + text(a) + " and " + text(b) }

// want is the span of all results.
func (c call) want(a, b api.Span) api.Span {
	if !c.defined(b) {
		return none()
	}
	var least, greatest *big.Rat
	for _, x := range corners(a) {
		for _, y := range corners(b) {
			v := c.real(x, y)
			if least == nil || v.Cmp(least) < 0 {
				least = v
			}
			if greatest == nil || v.Cmp(greatest) > 0 {
				greatest = v
			}
		}
	}
	return wanted(least, greatest)
}

// hold holds the call to what the chapter says of a and b.
func (c call) hold(t *testing.T, a, b api.Span) {
	t.Helper()
	expect(t, c.at(a, b), c.span(a, b), c.want(a, b))
}

// 4.2, 4.8: each end is the one rounding of the least or the greatest result.
func TestCalls(t *testing.T) {
	for _, c := range calls() {
		t.Run(c.name, func(t *testing.T) {
			t.Parallel()
			if c.alone {
				for _, a := range spans() {
					c.hold(t, a, a)
				}
				return
			}
			for _, p := range pairs() {
				c.hold(t, p.a, p.b)
			}
		})
	}
}

// 4.2: what is bad, in whatever way, makes all bad, beside whatever span.
func TestCallsOfBads(t *testing.T) {
	for _, c := range append(calls(), call{name: "Hull", span: Hull}, call{name: "Meet", span: Meet}) {
		for _, a := range bads() {
			for _, b := range append(spans(), bads()...) {
				expect(t, c.at(a, b), c.span(a, b), none())
				if !c.alone {
					expect(t, c.at(b, a), c.span(b, a), none())
				}
			}
		}
	}
}

// 4.2: nothing is divided by what holds 0, at an end, of either sign, or between.
func TestDivByNought(t *testing.T) {
	minus := oracle.MinusZero()
	for _, b := range []api.Span{
		of(0, 0), of(minus, minus), of(minus, 0), of(0, 1), of(minus, 1), of(-1, 0), of(-1, minus), of(-1, 1),
		of(-oracle.Least, oracle.Least), of(-oracle.Max, oracle.Least), of(-oracle.Max, oracle.Max),
	} {
		for _, a := range spans() {
			expect(t, "Div of "+text(a)+" and "+text(b), Div(a, b), none())
		}
	}
	expect(t, "Div by the least number", Div(of(oracle.Least, oracle.Least), of(oracle.Least, oracle.Least)), of(1, 1))
	expect(t, "Div by the least number, turned", Div(of(oracle.Least, oracle.Least), of(-oracle.Least, -oracle.Least)), of(-1, -1))
}

// 4.2: ends beyond the greatest number, on one side, on the other, and on both.
func TestBeyondMax(t *testing.T) {
	const max = oracle.Max
	for i, l := range [][2]api.Span{
		{Add(of(-max, max), of(-1, 0)), none()},
		{Add(of(-max, max), of(0, 1)), none()},
		{Add(of(-max, max), of(0, 0)), of(-max, max)},
		{Add(of(max, max), of(-max, 0)), of(0, max)},
		{Sub(of(max, max), of(-oracle.Least, 0)), none()},
		{Sub(of(-max, -max), of(0, oracle.Least)), none()},
		{Sub(of(-max, max), of(0, 0)), of(-max, max)},
		{Mul(of(-max, 1), of(1, 2)), none()},
		{Mul(of(-1, max), of(1, 2)), none()},
		{Mul(of(-max, max), of(-1, 1)), of(-max, max)},
		{Mul(of(max, max), of(max, max)), none()},
		{Mul(of(-max, -max), of(max, max)), none()},
		{Div(of(1, 1), of(oracle.Least, 1)), none()},
		{Div(of(-1, -1), of(oracle.Least, 1)), none()},
		{Div(of(max, max), of(0.5, 2)), none()},
		{Div(of(-max, max), of(1, 2)), of(-max, max)},
		{Square(of(0, 0x1p512)), none()},
		{Square(of(-0x1p512, 0)), none()},
		{Square(of(max, max)), none()},
		{Scale(of(0x1p1000, 0x1p1000), 24), none()},
		{Scale(of(-0x1p1000, 0), 24), none()},
		{Scale(of(-0x1p1000, 0x1p1000), 23), of(-0x1p1023, 0x1p1023)},
		{Neg(of(-max, max)), of(-max, max)},
	} {
		if !same(l[0], l[1]) {
			t.Errorf("%d: %s, not %s", i, text(l[0]), text(l[1]))
		}
	}
}

// 4.2: Scale by powers that bring an end to an edge.
func TestScale(t *testing.T) {
	t.Parallel()
	for i, a := range spans() {
		_, lo := math.Frexp(a.Lo)
		_, hi := math.Frexp(a.Hi)
		for _, n := range []int{1022 - lo, 1023 - hi, 1024 - hi, 1025 - hi, -1073 - lo, -1074 - lo, -1021 - hi, -1023 - hi, i%4400 - 2200, 2098, -2099} {
			scaling(n).hold(t, a, a)
		}
	}
}

// 4.2: Scale for every int: from some power on nothing changes any more.
func TestScaleFar(t *testing.T) {
	for _, a := range spans() {
		up, down := scaling(5000).want(a, a), scaling(-5000).want(a, a)
		for _, n := range []int{2200, 5000, 1 << 31, 1 << 32, math.MaxInt - 1074, math.MaxInt} {
			expect(t, "Scale far up of "+text(a), Scale(a, n), up)
		}
		for _, n := range []int{-2200, -5000, -1 << 31, -1 << 32, math.MinInt + 1074, math.MinInt} {
			expect(t, "Scale far down of "+text(a), Scale(a, n), down)
		}
	}
	for _, a := range bads() {
		for _, n := range []int{0, math.MaxInt, math.MinInt} {
			expect(t, "Scale of a bad one", Scale(a, n), none())
		}
	}
}
