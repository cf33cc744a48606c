package round

import (
	"fmt"
	"math"
	"math/big"
	"testing"

	"ambit/api"
	"ambit/oracle"
)

// An operation on two numbers, and the real that it is of (nil: there is none).
type operation struct {
	name string
	call func(d api.Dir, a, b float64) (float64, bool)
	real func(a, b *big.Rat) *big.Rat
}

func operations() []operation {
	return []operation{
		{"Add", Add, func(a, b *big.Rat) *big.Rat { return new(big.Rat).Add(a, b) }},
		{"Sub", Sub, func(a, b *big.Rat) *big.Rat { return new(big.Rat).Sub(a, b) }},
		{"Mul", Mul, func(a, b *big.Rat) *big.Rat { return new(big.Rat).Mul(a, b) }},
		{"Div", Div, func(a, b *big.Rat) *big.Rat {
			if b.Sign() == 0 {
				return nil
			}
			return new(big.Rat).Quo(a, b)
		}},
	}
}

func (o operation) at(d api.Dir, a, b float64) string {
	return fmt.Sprintf("%s(%d, %x, %x)", o.name, d, a, b)
}

// 2.1
func TestNumber(t *testing.T) {
	for _, a := range append(oracle.Edges(), oracle.MinusZero(), math.Pi) {
		if !Number(a) {
			t.Errorf("%x is a number", a)
		}
	}
	for _, a := range oracle.NoNumbers() {
		if Number(a) {
			t.Errorf("%v is no number", a)
		}
	}
}

// 2.2
func TestNext(t *testing.T) {
	var m oracle.Mixer
	places := []int{0, 1, 2, oracle.Ends(), oracle.Ends() - 1, int(math.Float64bits(1)), int(math.Float64bits(0x1p-1022))}
	for range 1000 {
		places = append(places, m.Below(oracle.Ends()))
	}
	for _, p := range places {
		for _, place := range []int{p, -p, p - 1, 1 - p} {
			a := oracle.NumberAt(place)
			var want oracle.Rounded
			want.Tell(api.Near, place)
			want.Tell(api.Up, place+1)
			want.Tell(api.Down, place-1)
			for _, d := range oracle.Directions() {
				got, ok := Next(d, a)
				expect(t, fmt.Sprintf("Next(%d, %x)", d, a), got, ok, want.Number[d], want.Is[d])
			}
		}
	}
	for _, d := range oracle.Directions() {
		for _, a := range oracle.NoNumbers() {
			got, ok := Next(d, a)
			expect(t, fmt.Sprintf("Next(%d, %v)", d, a), got, ok, 0, false)
		}
	}
	for _, d := range oracle.NoDirections() {
		for _, a := range oracle.Edges() {
			got, ok := Next(d, a)
			expect(t, fmt.Sprintf("Next(%d, %x)", d, a), got, ok, 0, false)
		}
	}
}

// 2.2: of noughts and the numbers next to them.
func TestNextToNought(t *testing.T) {
	for _, a := range []float64{0, oracle.MinusZero()} {
		for d, want := range []float64{0, oracle.Least, -oracle.Least} {
			got, ok := Next(api.Dir(d), a)
			expect(t, fmt.Sprintf("Next(%d, %v)", d, a), got, ok, want, true)
		}
	}
	got, ok := Next(api.Up, -oracle.Least)
	expect(t, "up from -e", got, ok, 0, true)
	got, ok = Next(api.Down, oracle.Least)
	expect(t, "down from e", got, ok, 0, true)
}

// 2.3, 2.4, 2.7
func TestOperations(t *testing.T) {
	for _, o := range operations() {
		t.Run(o.name, func(t *testing.T) {
			t.Parallel()
			for _, p := range pairs() {
				o.hold(t, p[0], p[1])
			}
		})
	}
}

// hold holds what the operation tells of a and b against the oracle.
func (o operation) hold(t *testing.T, a, b float64) {
	t.Helper()
	var want oracle.Rounded
	if v := o.real(oracle.Exact(a), oracle.Exact(b)); v != nil {
		want = oracle.Roundings(v)
	}
	for _, d := range oracle.Directions() {
		got, ok := o.call(d, a, b)
		expect(t, o.at(d, a, b), got, ok, want.Number[d], want.Is[d])
	}
}

// 2.3, 2.4: what is no number, and what is no direction.
func TestOperationsRefuse(t *testing.T) {
	for _, o := range operations() {
		for _, a := range oracle.Edges() {
			for _, bad := range oracle.NoNumbers() {
				for _, d := range oracle.Directions() {
					got, ok := o.call(d, a, bad)
					expect(t, o.at(d, a, bad), got, ok, 0, false)
					got, ok = o.call(d, bad, a)
					expect(t, o.at(d, bad, a), got, ok, 0, false)
					got, ok = o.call(d, bad, bad)
					expect(t, o.at(d, bad, bad), got, ok, 0, false)
				}
			}
			for _, d := range oracle.NoDirections() {
				got, ok := o.call(d, a, 1)
				expect(t, o.at(d, a, 1), got, ok, 0, false)
			}
		}
	}
}

// 2.4: nothing is divided by a nought of either sign.
func TestDivByNought(t *testing.T) {
	for _, a := range append(oracle.Edges(), oracle.MinusZero()) {
		for _, b := range []float64{0, oracle.MinusZero()} {
			for _, d := range oracle.Directions() {
				got, ok := Div(d, a, b)
				expect(t, fmt.Sprintf("Div(%d, %x, %v)", d, a, b), got, ok, 0, false)
			}
		}
	}
}

// powers are those by which a number is scaled: some for which its result is at an edge, and some that are far.
func powers(a float64) []int {
	_, e := math.Frexp(a)
	l := []int{0, 1, -1, 2, 52, -52, 53, -53, -100, 200, 1023, -1022, 2000, -2000, 2097, 2098, 2099, -2097, -2098, -2099, -2100, 3000, -3000}
	for n := -4; n <= 4; n++ {
		l = append(l, 1023-e+n, -1022-e+n, -1048-e+n, -1074-e+n)
	}
	return l
}

func scaling(d api.Dir, a float64, n int) string { return fmt.Sprintf("Scale(%d, %x, %d)", d, a, n) }

// 2.5, 2.7
func TestScale(t *testing.T) {
	var m oracle.Mixer
	l := append(oracle.Edges(), oracle.MinusZero())
	for range 30 {
		l = append(l, m.Number(m.Below(2000)-1000))
	}
	for _, a := range l {
		for _, n := range powers(a) {
			want := oracle.Roundings(new(big.Rat).Mul(oracle.Exact(a), oracle.Power(n)))
			for _, d := range oracle.Directions() {
				got, ok := Scale(d, a, n)
				expect(t, scaling(d, a, n), got, ok, want.Number[d], want.Is[d])
			}
		}
	}
}

// 2.5: powers that an exponent can't hold go as far as any.
func TestScaleFar(t *testing.T) {
	for _, a := range append(oracle.Edges(), oracle.MinusZero()) {
		for _, d := range oracle.Directions() {
			for _, n := range []int{5000, 1 << 31, 1 << 32, math.MaxInt - 1074, math.MaxInt} {
				want, is := 0.0, a == 0
				if a > 0 && d == api.Down {
					want, is = oracle.Max, true
				}
				if a < 0 && d == api.Up {
					want, is = -oracle.Max, true
				}
				got, ok := Scale(d, a, n)
				expect(t, scaling(d, a, n), got, ok, want, is)
			}
			for _, n := range []int{-5000, -1 << 31, -1 << 32, math.MinInt + 1074, math.MinInt} {
				want := 0.0
				if a > 0 && d == api.Up {
					want = oracle.Least
				}
				if a < 0 && d == api.Down {
					want = -oracle.Least
				}
				got, ok := Scale(d, a, n)
				expect(t, scaling(d, a, n), got, ok, want, true)
			}
		}
	}
}

// 2.5: what is no number, and what is no direction.
func TestScaleRefuses(t *testing.T) {
	for _, n := range []int{0, 1, -1, 5000, -5000, math.MaxInt, math.MinInt} {
		for _, a := range oracle.NoNumbers() {
			for _, d := range oracle.Directions() {
				got, ok := Scale(d, a, n)
				expect(t, scaling(d, a, n), got, ok, 0, false)
			}
		}
		for _, d := range oracle.NoDirections() {
			got, ok := Scale(d, 1, n)
			expect(t, scaling(d, 1, n), got, ok, 0, false)
		}
	}
}

// twoParts are near(v) and the number that is v less it, if there are both.
func twoParts(v *big.Rat) (float64, float64, bool) {
	r := oracle.Roundings(v)
	if !r.Is[api.Near] {
		return 0, 0, false
	}
	left := new(big.Rat).Sub(v, oracle.Exact(r.Number[api.Near]))
	rest := oracle.Roundings(left).Number[api.Near]
	if oracle.Exact(rest).Cmp(left) != 0 {
		return 0, 0, false
	}
	return r.Number[api.Near], rest, true
}

// 2.6
func TestTwoParts(t *testing.T) {
	t.Parallel()
	none := 0
	for _, p := range append(pairs(), smallProducts()...) {
		a, b := p[0], p[1]
		first, rest, is := twoParts(new(big.Rat).Add(oracle.Exact(a), oracle.Exact(b)))
		s, e, ok := Sum2(a, b)
		expect(t, fmt.Sprintf("Sum2(%x, %x)", a, b), s, ok, first, is)
		expect(t, fmt.Sprintf("what Sum2(%x, %x) leaves", a, b), e, ok, rest, is)

		first, rest, is = twoParts(new(big.Rat).Mul(oracle.Exact(a), oracle.Exact(b)))
		s, e, ok = Prod2(a, b)
		expect(t, fmt.Sprintf("Prod2(%x, %x)", a, b), s, ok, first, is)
		expect(t, fmt.Sprintf("what Prod2(%x, %x) leaves", a, b), e, ok, rest, is)
		if _, near := Mul(api.Near, a, b); near && !is {
			none++
		}
	}
	if none == 0 {
		t.Error("no product of which what is left is no number")
	}
}

// smallProducts are pairs whose product is a number of few bits too many, so that what is left lies at the least number.
func smallProducts() [][2]float64 {
	var l [][2]float64
	for n := -1080; n <= -960; n++ {
		l = append(l,
			[2]float64{math.Ldexp(1+2*half, n/2), math.Ldexp(1+2*half, n-n/2)},
			[2]float64{math.Ldexp(-1-0x1p-26, n/2), math.Ldexp(1+0x1p-27, n-n/2)},
			[2]float64{math.Ldexp(3, n/2), math.Ldexp(0x1.5555555555555p1, n-n/2)},
		)
	}
	return l
}

// 2.6: there is always something left of a sum, and nothing beside no number.
func TestTwoPartsOfNoNumbers(t *testing.T) {
	for _, bad := range oracle.NoNumbers() {
		for _, a := range append(oracle.Edges(), oracle.NoNumbers()...) {
			for _, p := range [][2]float64{{a, bad}, {bad, a}} {
				s, e, ok := Sum2(p[0], p[1])
				expect(t, "a sum of no number", s, ok, 0, false)
				expect(t, "what a sum of no number leaves", e, ok, 0, false)
				s, e, ok = Prod2(p[0], p[1])
				expect(t, "a product of no number", s, ok, 0, false)
				expect(t, "what a product of no number leaves", e, ok, 0, false)
			}
		}
	}
}
