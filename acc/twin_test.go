package acc

import (
	"math"
	"math/big"
	"testing"

	"ambit/api"
	"ambit/oracle"
)

// A twin is an Acc, and its real, reckoned beside it by fractions.
type twin struct {
	x *Acc
	v *big.Rat
}

func nothing() twin { return twin{New(), new(big.Rat)} }

// product is a times b times 2^n.
func product(a, b float64, n int) *big.Rat {
	v := new(big.Rat).Mul(oracle.Exact(a), oracle.Exact(b))
	return v.Mul(v, oracle.Power(n))
}

func (w twin) add(a float64) twin {
	w.x.Add(a)
	w.v.Add(w.v, oracle.Exact(a))
	return w
}

func (w twin) prod(a, b float64, n int) twin {
	w.x.Prod(a, b, n)
	w.v.Add(w.v, product(a, b, n))
	return w
}

func (w twin) join(y twin, neg bool) twin {
	w.x.Join(y.x, neg)
	if neg {
		w.v.Sub(w.v, y.v)
	} else {
		w.v.Add(w.v, y.v)
	}
	return w
}

func (w twin) copy() twin { return twin{w.x.Copy(), new(big.Rat).Set(w.v)} }

// power is 2^n: one product, as far as one goes, and doubled from there on.
func power(n int) twin {
	once := min(n, 2110)
	first := min(max(once, -1074), 1023)
	second := min(max(once-first, -1074), 1023)
	two := func(n int) float64 { a, _ := oracle.Power(n).Float64(); return a }
	w := nothing().prod(two(first), two(second), once-first-second)
	for range n - once {
		w.join(w.copy(), false)
	}
	return w
}

// tiny is the least product there is.
func tiny() twin { return power(-2212) }

// most is the greatest real that an Acc holds: 2^2560 less the least product.
func most() twin { return power(2559).join(tiny(), true).join(power(2559), false) }

// both are w and w turned.
func both(w twin) []twin { return []twin{w, nothing().join(w, true)} }

// edges are reals that are products of two numbers at an edge.
func edges() []twin {
	var l []twin
	for _, a := range oracle.Heights() {
		for _, b := range oracle.Edges() {
			l = append(l, nothing().prod(a, b, 0))
		}
		for _, n := range []int{-64, -1, 1, 64} {
			l = append(l, nothing().prod(a, 1, n), nothing().prod(-a, a, n))
		}
	}
	return l
}

// A step is a number, and how far it is to a neighbour of it, or -1 or 0 times so far.
type step struct{ number, far float64 }

func steps() []step {
	var l []step
	for _, a := range oracle.Edges() {
		place := int(api.Bits(math.Abs(a)))
		if place == oracle.Ends() {
			place--
		}
		far := oracle.NumberAt(place+1) - oracle.NumberAt(place)
		l = append(l, step{a, 0}, step{a, far}, step{a, -far})
	}
	return l
}

// beside are w and the nearest reals to it.
func beside(w twin) []twin {
	return []twin{w, w.copy().join(tiny(), false), w.copy().join(tiny(), true)}
}

// between are the reals halfway between neighbours, numbers, and the nearest reals to these.
func between() []twin {
	var l []twin
	for _, s := range steps() {
		l = append(l, beside(nothing().add(s.number).prod(s.far, 1, -1))...)
	}
	return l
}

// wide are reals of many bits, here and there.
func wide(n int) []twin {
	var l []twin
	var m oracle.Mixer
	for range n {
		w := nothing()
		e := m.Below(2000) - 1000
		for range 1 + m.Below(6) {
			w.prod(m.Number(e/2-m.Below(60)), m.Number(e-e/2-m.Below(60)), m.Below(129)-64)
		}
		if m.Below(4) == 0 {
			w.add(m.Number(m.Below(2000) - 1000))
		}
		if m.Below(8) == 0 {
			for range m.Below(440) {
				w.join(w.copy(), false)
			}
		}
		l = append(l, w)
	}
	return l
}

// extremes are the greatest and the least reals, and some around the greatest number.
func extremes() []twin {
	l := both(nothing())
	for _, n := range []int{-2212, -2211, -2177, -2176, -2175, -2149, -1139, -1075, -1074, -1022, -1, 0, 1, 63, 64, 1023, 1024, 1025, 2047, 2110, 2495, 2559} {
		l = append(l, both(power(n))...)
		l = append(l, both(power(n).join(tiny(), true))...)
		if n < 2559 {
			l = append(l, both(power(n).join(tiny(), false))...)
		}
	}
	for _, w := range beside(power(1024).join(power(970), true)) {
		l = append(l, both(w)...)
	}
	return append(l, both(most())...)
}

func reals() []twin {
	l := append(extremes(), between()...)
	l = append(l, edges()...)
	return append(l, wide(500)...)
}

// bads are Accs that are bad, each in another way.
func bads() []*Acc {
	var l []*Acc
	for _, spoil := range []func(x *Acc){
		func(x *Acc) { x.Add(oracle.NoNumbers()[0]) },
		func(x *Acc) { x.Prod(1, 1, 65) },
		func(x *Acc) { x.Join(nil, false) },
		func(x *Acc) { x.Join(power(2559).x, false); x.Join(x, false) },
	} {
		x := New()
		x.Add(3)
		spoil(x)
		l = append(l, x)
	}
	return l
}

// hold holds what w tells of its real alone against the real.
func (w twin) hold(t *testing.T, name string) {
	t.Helper()
	if w.x.Bad() || w.x.Sign() != w.v.Sign() {
		t.Errorf("%s: sign %d, bad %v, of %s", name, w.x.Sign(), w.x.Bad(), w.text())
	}
	want := oracle.Roundings(w.v)
	for _, d := range oracle.Directions() {
		got, ok := w.x.Round(d)
		if !fits(got, ok, want, d) {
			t.Errorf("%s by %d: %x %v, not %x %v, of %s", name, d, got, ok, want.Number[d], want.Is[d], w.text())
		}
	}
}

func (w twin) text() string {
	return new(big.Float).SetPrec(5000).SetRat(w.v).Text('p', 0)
}

// fits tells whether just what d asks for was told.
func fits(got float64, ok bool, want oracle.Rounded, d api.Dir) bool {
	return ok == want.Is[d] && oracle.Same(got, want.Number[d])
}

func expect(t *testing.T, name string, d api.Dir, got float64, ok bool, want float64, is bool) {
	t.Helper()
	if ok != is || !oracle.Same(got, want) {
		t.Errorf("%s by %d: %x %v, not %x %v", name, d, got, ok, want, is)
	}
}

// same tells whether two Accs are of one real.
func same(x, y *Acc) bool {
	c, ok := x.Cmp(y)
	return ok && c == 0
}
