package acc

import (
	"fmt"
	"math"
	"math/big"
	"testing"

	"ambit/api"
	"ambit/oracle"
)

// 3.1
func TestNew(t *testing.T) {
	nothing().hold(t, "New")
	x, y := New(), New()
	x.Add(1)
	if y.Sign() != 0 {
		t.Error("two have something in common")
	}
}

// 3.1
func TestAdd(t *testing.T) {
	all := nothing()
	for _, a := range append(oracle.Edges(), oracle.MinusZero()) {
		nothing().add(a).hold(t, "Add")
		all.add(a).hold(t, "Add to others")
		all.add(0.75*a).hold(t, "Add to others")
	}
}

// 3.1
func TestProd(t *testing.T) {
	all := nothing()
	for _, a := range oracle.Edges() {
		for i, b := range oracle.Heights() {
			n := i*7%129 - 64
			nothing().prod(a, b, n).hold(t, fmt.Sprintf("Prod(%x, %x, %d)", a, b, n))
			all.prod(a, b, n)
		}
		all.hold(t, "Prod to others")
	}
	for n := -64; n <= 64; n++ {
		nothing().prod(-3, 5, n).hold(t, "Prod of small numbers")
		nothing().prod(oracle.Least, oracle.Least, n).hold(t, "Prod of the least")
		nothing().prod(oracle.Max, -oracle.Max, n).hold(t, "Prod of the greatest")
	}
}

// 3.1: what is no number, beside whatever number, and powers outside the bounds.
func TestAddRefuses(t *testing.T) {
	for _, none := range oracle.NoNumbers() {
		x := New()
		x.Add(none)
		isBad(t, fmt.Sprint("Add ", none), x)
		for _, a := range append(oracle.Edges(), oracle.NoNumbers()...) {
			x, y := New(), New()
			x.Prod(a, none, 0)
			isBad(t, fmt.Sprint("Prod ", a, none), x)
			y.Prod(none, a, 0)
			isBad(t, fmt.Sprint("Prod ", none, a), y)
		}
	}
	for _, n := range []int{65, -65, 66, 1000, -1000, 1 << 32, -1 << 32, math.MaxInt, math.MinInt} {
		for _, a := range []float64{0, 1, oracle.Least, oracle.Max} {
			x := New()
			x.Prod(a, 0.5, n)
			isBad(t, fmt.Sprint("Prod by ", n), x)
		}
	}
}

// isBad holds x to all that is said of a bad one, and to staying so.
func isBad(t *testing.T, name string, x *Acc) {
	t.Helper()
	one := New()
	one.Add(1)
	for i, step := range []func(){
		func() {}, func() { x.Add(1) }, func() { x.Prod(2, 3, 4) }, func() { x.Join(one, false) }, func() { x.Join(x, true) }, x.Abs,
		func() { x = x.Copy() },
	} {
		step()
		if !x.Bad() || x.Sign() != 0 {
			t.Errorf("%s, step %d: bad %v, sign %d", name, i, x.Bad(), x.Sign())
		}
	}
	for _, y := range []*Acc{x, one, New(), nil} {
		if c, ok := x.Cmp(y); c != 0 || ok {
			t.Errorf("%s: Cmp %d %v", name, c, ok)
		}
		if c, ok := y.Cmp(x); y != nil && (c != 0 || ok) {
			t.Errorf("%s: Cmp with it %d %v", name, c, ok)
		}
	}
	for _, d := range oracle.Directions() {
		got, ok := x.Round(d)
		expect(t, name, d, got, ok, 0, false)
		got, ok = x.Over(d, one)
		expect(t, name+" over 1", d, got, ok, 0, false)
		got, ok = one.Over(d, x)
		expect(t, "1 over "+name, d, got, ok, 0, false)
	}
}

// 3.2
func TestJoin(t *testing.T) {
	l := append(wide(60), extremes()...)
	for i, x := range l {
		for _, neg := range []bool{false, true} {
			y := l[(7*i+3)%len(l)]
			z, before := x.copy(), y.copy()
			z.join(y, neg)
			if new(big.Rat).Abs(z.v).Cmp(oracle.Power(2560)) >= 0 {
				isBad(t, "a real of 2^2560", z.x)
				continue
			}
			z.hold(t, "Join")
			if !same(y.x, before.x) {
				t.Error("Join changed what it was given")
			}
			z.add(1)
			if !same(y.x, before.x) {
				t.Error("joined ones have something in common")
			}
		}
	}
}

// 3.2
func TestJoinItself(t *testing.T) {
	for _, w := range append(wide(60), edges()...) {
		w.x.Join(w.x, false)
		w.v.Add(w.v, w.v)
		w.hold(t, "doubled")
		w.x.Join(w.x, true)
		if w.x.Bad() || !same(w.x, New()) {
			t.Error("taken from itself it is no 0")
		}
	}
}

// 3.2
func TestJoinRefuses(t *testing.T) {
	for _, neg := range []bool{false, true} {
		x := New()
		x.Join(nil, neg)
		isBad(t, "joined to nil", x)
		for _, y := range bads() {
			x := New()
			x.Join(y, neg)
			isBad(t, "joined to a bad one", x)
			isBad(t, "a bad one that was joined", y)
		}
	}
}

// 3.2
func TestAbs(t *testing.T) {
	for _, w := range append(extremes(), wide(100)...) {
		w.x.Abs()
		w.v.Abs(w.v)
		w.hold(t, "Abs")
	}
	for _, x := range bads() {
		x.Abs()
		isBad(t, "Abs of a bad one", x)
	}
}

// 3.3
func TestCmp(t *testing.T) {
	l := append(extremes(), wide(60)...)
	for _, x := range l {
		for _, y := range append(l, x.copy()) {
			if c, ok := x.x.Cmp(y.x); c != x.v.Cmp(y.v) || !ok {
				t.Errorf("Cmp: %d %v of %s and %s", c, ok, x.text(), y.text())
			}
		}
		for _, y := range append(bads(), nil) {
			if c, ok := x.x.Cmp(y); c != 0 || ok {
				t.Errorf("Cmp with none: %d %v", c, ok)
			}
		}
	}
}

// 3.3
func TestBadAndSign(t *testing.T) {
	for _, x := range bads() {
		isBad(t, "a bad one", x)
	}
	for _, w := range reals() {
		if w.x.Bad() || w.x.Sign() != w.v.Sign() {
			t.Errorf("bad %v, sign %d of %s", w.x.Bad(), w.x.Sign(), w.text())
		}
	}
}

// 3.3
func TestCopy(t *testing.T) {
	for _, w := range append(extremes(), wide(60)...) {
		y := w.copy()
		if !same(w.x, y.x) || y.x == w.x {
			t.Error("another real, or the same Acc, of", w.text())
		}
		y.join(w, true).add(5).hold(t, "a copy that goes on")
		w.hold(t, "what was copied")
		y = w.copy()
		w.x.Join(w.x, true)
		y.hold(t, "a copy of what goes on")
	}
	for _, x := range bads() {
		isBad(t, "a copy of a bad one", x.Copy())
	}
}

// 3.4, 3.7
func TestRound(t *testing.T) {
	for _, w := range reals() {
		before := w.x.Copy()
		w.hold(t, "Round")
		if !same(w.x, before) {
			t.Error("Round changed", w.text())
		}
	}
}

// 3.4
func TestRoundGoesOn(t *testing.T) {
	w := nothing()
	for _, a := range oracle.Edges() {
		w.prod(a, 0.7, -3).hold(t, "rounded on its way")
	}
}

// 3.4
func TestRoundRefuses(t *testing.T) {
	for _, d := range oracle.NoDirections() {
		for _, w := range extremes() {
			got, ok := w.x.Round(d)
			expect(t, "Round", d, got, ok, 0, false)
			got, ok = w.x.Over(d, tiny().x)
			expect(t, "Over", d, got, ok, 0, false)
			got, ok = w.x.Over(d, most().x)
			expect(t, "Over", d, got, ok, 0, false)
		}
	}
}

// 3.5
func TestSum(t *testing.T) {
	l := append(oracle.Edges(), oracle.MinusZero())
	for i := range l {
		part := append(l[i:], l[:i]...)[:i%13]
		w := nothing()
		for _, a := range part {
			w.add(a)
		}
		want := oracle.Roundings(w.v)
		for _, d := range oracle.Directions() {
			got, ok := Sum(d, part...)
			expect(t, fmt.Sprint("Sum of ", part), d, got, ok, want.Number[d], want.Is[d])
		}
		for _, d := range oracle.NoDirections() {
			got, ok := Sum(d, part...)
			expect(t, "Sum", d, got, ok, 0, false)
		}
		for _, none := range oracle.NoNumbers() {
			got, ok := Sum(api.Near, append([]float64{none}, part...)...)
			expect(t, "Sum with no number", api.Near, got, ok, 0, false)
			got, ok = Sum(api.Down, append([]float64{none, -none}, part...)...)
			expect(t, "Sum with no numbers", api.Down, got, ok, 0, false)
		}
	}
}

// 3.5
func TestDot(t *testing.T) {
	l := append(oracle.Edges(), oracle.MinusZero())
	var m oracle.Mixer
	for i := range 200 {
		var a, b []float64
		w := nothing()
		for range i % 9 {
			a, b = append(a, l[m.Below(len(l))]), append(b, l[m.Below(len(l))])
			w.prod(a[len(a)-1], b[len(b)-1], 0)
		}
		want := oracle.Roundings(w.v)
		for _, d := range oracle.Directions() {
			got, ok := Dot(d, a, b)
			expect(t, fmt.Sprint("Dot of ", a, b), d, got, ok, want.Number[d], want.Is[d])
		}
		for _, d := range oracle.NoDirections() {
			got, ok := Dot(d, a, b)
			expect(t, "Dot", d, got, ok, 0, false)
		}
	}
}

// 3.5: lists of unlike lengths, and what is no number.
func TestDotRefuses(t *testing.T) {
	for _, d := range oracle.Directions() {
		for _, p := range [][2][]float64{
			{{1}, nil}, {nil, {0}}, {{1, 2}, {3}}, {{0}, {0, 0}}, {{}, {1, 2, 3}},
		} {
			got, ok := Dot(d, p[0], p[1])
			expect(t, "Dot of unlike lengths", d, got, ok, 0, false)
		}
		for _, none := range oracle.NoNumbers() {
			got, ok := Dot(d, []float64{1, none}, []float64{1, 0})
			expect(t, "Dot with no number", d, got, ok, 0, false)
			got, ok = Dot(d, []float64{1, 0}, []float64{none, 1})
			expect(t, "Dot with no number", d, got, ok, 0, false)
		}
		got, ok := Dot(d, nil, []float64{})
		expect(t, "Dot of nothing", d, got, ok, 0, true)
	}
}
