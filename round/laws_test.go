package round

import (
	"fmt"
	"math"
	"math/big"
	"slices"
	"testing"

	"ambit/api"
	"ambit/oracle"
)

// 2.7: by the calls alone.
func TestNeighbours(t *testing.T) {
	for _, o := range operations() {
		for _, p := range pairs() {
			a, b := p[0], p[1]
			near, isNear := o.call(api.Near, a, b)
			up, isUp := o.call(api.Up, a, b)
			down, isDown := o.call(api.Down, a, b)
			if isNear && !(isUp && near == up) && !(isDown && near == down) {
				t.Errorf("%s: %x is none of %x and %x", o.at(api.Near, a, b), near, up, down)
			}
			if !isUp || !isDown {
				continue
			}
			v := o.real(oracle.Exact(a), oracle.Exact(b))
			if oracle.Exact(down).Cmp(v) > 0 || oracle.Exact(up).Cmp(v) < 0 {
				t.Errorf("%s lies not from %x to %x", o.at(api.Near, a, b), down, up)
			}
			if oracle.Same(up, down) != (oracle.Exact(up).Cmp(v) == 0) {
				t.Errorf("%s is a number's value, or from %x to %x", o.at(api.Near, a, b), down, up)
			}
			if above, ok := Next(api.Up, down); up != down && !(ok && oracle.Same(above, up)) {
				t.Errorf("%s: %x and %x are no neighbours", o.at(api.Near, a, b), down, up)
			}
		}
	}
}

// A result is what one call told, and the real that it was to tell.
type result struct {
	real *big.Rat
	told float64
}

func rising(t *testing.T, name string, l []result) {
	t.Helper()
	slices.SortFunc(l, func(x, y result) int { return x.real.Cmp(y.real) })
	for i := 1; i < len(l); i++ {
		if l[i].told < l[i-1].told {
			t.Errorf("%s falls from %x to %x", name, l[i-1].told, l[i].told)
		}
		if l[i].real.Cmp(l[i-1].real) == 0 && !oracle.Same(l[i].told, l[i-1].told) {
			t.Errorf("%s tells %x and %x of one real", name, l[i-1].told, l[i].told)
		}
	}
}

// 2.8
func TestRising(t *testing.T) {
	t.Parallel()
	for _, d := range oracle.Directions() {
		for _, o := range operations() {
			var l []result
			for _, p := range pairs() {
				if told, ok := o.call(d, p[0], p[1]); ok {
					l = append(l, result{o.real(oracle.Exact(p[0]), oracle.Exact(p[1])), told})
				}
			}
			rising(t, fmt.Sprint(o.name, d), l)
		}
		var l []result
		for _, a := range oracle.Edges() {
			for _, n := range powers(a) {
				if told, ok := Scale(d, a, n); ok {
					l = append(l, result{new(big.Rat).Mul(oracle.Exact(a), oracle.Power(n)), told})
				}
			}
		}
		rising(t, fmt.Sprint("Scale", d), l)
	}
}

// turned is a with the other sign; a nought has none.
func turned(a float64) float64 {
	if a == 0 {
		return 0
	}
	return -a
}

// 2.9
func TestTurnedOver(t *testing.T) {
	other := []api.Dir{api.Near: api.Near, api.Up: api.Down, api.Down: api.Up}
	for _, d := range oracle.Directions() {
		for _, p := range pairs() {
			a, b := p[0], p[1]
			for _, o := range operations() {
				got, ok := o.call(d, a, b)
				over, is := o.call(other[d], -a, b)
				if o.name == "Add" || o.name == "Sub" {
					over, is = o.call(other[d], -a, -b)
				}
				expect(t, o.at(d, a, b)+" and turned over", got, ok, turned(over), is)
			}
			got, ok := Next(d, a)
			over, is := Next(other[d], -a)
			expect(t, "Next and turned over", got, ok, turned(over), is)
			n := int(math.Float64bits(b) >> 50 % 4096)
			got, ok = Scale(d, a, n-2048)
			over, is = Scale(other[d], -a, n-2048)
			expect(t, scaling(d, a, n-2048)+" and turned over", got, ok, turned(over), is)
		}
	}
}

// 2.9
func TestOrder(t *testing.T) {
	for _, d := range oracle.Directions() {
		for _, p := range pairs() {
			got, ok := Add(d, p[0], p[1])
			want, is := Add(d, p[1], p[0])
			expect(t, fmt.Sprintf("Add(%d, %x, %x) and the other way", d, p[0], p[1]), got, ok, want, is)
			got, ok = Mul(d, p[0], p[1])
			want, is = Mul(d, p[1], p[0])
			expect(t, fmt.Sprintf("Mul(%d, %x, %x) and the other way", d, p[0], p[1]), got, ok, want, is)
		}
	}
}

// 2.10
func TestScaleAndBack(t *testing.T) {
	backs := 0
	for _, a := range append(oracle.Edges(), oracle.MinusZero()) {
		for _, n := range powers(a) {
			r, ok := Scale(api.Near, a, n)
			if !ok || oracle.Exact(r).Cmp(new(big.Rat).Mul(oracle.Exact(a), oracle.Power(n))) != 0 {
				continue
			}
			backs++
			got, ok := Scale(api.Near, r, -n)
			expect(t, scaling(api.Near, a, n)+" and back", got, ok, a+0, true)
		}
	}
	if backs < 1000 {
		t.Error("only", backs, "ways back")
	}
}

// A case of any bits: every call's answers.
func answers(d api.Dir, a, b float64, n int) ([]float64, []bool) {
	var l []float64
	var is []bool
	keep := func(ok bool, told ...float64) {
		l = append(l, told...)
		is = append(is, ok)
	}
	x, ok := Next(d, a)
	keep(ok, x)
	for _, o := range operations() {
		x, ok = o.call(d, a, b)
		keep(ok, x)
	}
	x, ok = Scale(d, a, n)
	keep(ok, x)
	s, e, ok := Sum2(a, b)
	keep(ok, s, e)
	p, e, ok := Prod2(a, b)
	keep(ok, p, e)
	return l, is
}

// plainNought is a, but +0 for a nought with a sign.
func plainNought(a float64) float64 {
	if math.Float64bits(a) == 1<<63 {
		return 0
	}
	return a
}

func identical(a, b []float64) bool { return slices.EqualFunc(a, b, oracle.Same) }

// 2.11
func TestAnyBits(t *testing.T) {
	var m oracle.Mixer
	extremes := append(append(oracle.Edges(), oracle.NoNumbers()...), oracle.MinusZero())
	pick := func() float64 {
		if m.Below(2) == 0 {
			return extremes[m.Below(len(extremes))]
		}
		return math.Float64frombits(m.Word())
	}
	for range 100000 {
		d, n := api.Dir(m.Below(4)), int(m.Word())>>m.Below(64)
		if m.Below(16) == 0 {
			d = api.Dir(m.Word())
		}
		a, b := pick(), pick()
		l, is := answers(d, a, b, n)
		for _, told := range l {
			if !Number(told) || oracle.Same(told, oracle.MinusZero()) {
				t.Fatalf("%v of %d %x %x %d", l, d, a, b, n)
			}
		}
		again, isAgain := answers(d, a, b, n)
		if !identical(l, again) || !slices.Equal(is, isAgain) {
			t.Fatalf("%v and %v of %d %x %x %d", l, again, d, a, b, n)
		}
		again, isAgain = answers(d, plainNought(a), plainNought(b), n)
		if !identical(l, again) || !slices.Equal(is, isAgain) {
			t.Fatalf("%v and without signs of noughts %v of %d %x %x %d", l, again, d, a, b, n)
		}
	}
}
