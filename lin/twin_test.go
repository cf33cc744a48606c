package lin

import (
	"math/big"
	"testing"

	"ambit/api"
	"ambit/oracle"
	"ambit/samples"
	"ambit/zono"
)

// A second lin, of exact fractions, by the words of the chapter; a layer's rows are what the table of DOC.md, Networks, tells of points.

func plus(a, b *big.Rat) *big.Rat { return new(big.Rat).Add(a, b) }

func minus(a, b *big.Rat) *big.Rat { return new(big.Rat).Sub(a, b) }

func times(a, b *big.Rat) *big.Rat { return new(big.Rat).Mul(a, b) }

func size(a *big.Rat) *big.Rat { return new(big.Rat).Abs(a) }

func exacts(l []float64) []*big.Rat {
	all := make([]*big.Rat, len(l))
	for i, a := range l {
		all[i] = oracle.Exact(a)
	}
	return all
}

// noughts are n reals, all of them 0.
func noughts(n int) []*big.Rat { return exacts(make([]float64, n)) }

func products(a, b []*big.Rat) *big.Rat {
	sum := new(big.Rat)
	for j := range a {
		sum = plus(sum, times(a[j], b[j]))
	}
	return sum
}

func isNumber(a float64) bool { return a-a == 0 }

// isOne tells whether z is a zonotope of n coordinates, and no bad one.
func isOne(z api.Zono, n int) bool { return zono.Check(z) == api.OK && !z.Bad && z.N == n }

// wantImage is the image by exact weights, of a zonotope.
func wantImage(z api.Zono, w []*big.Rat, b *big.Rat) (c float64, g []float64, r float64, ok bool) {
	ok = true
	lost := new(big.Rat)
	near := func(v *big.Rat) float64 {
		told := oracle.Roundings(v)
		ok = ok && told.Is[api.Near]
		lost = plus(lost, size(minus(v, oracle.Exact(told.Number[api.Near]))))
		return told.Number[api.Near]
	}
	c = near(plus(products(w, exacts(z.C)), b))
	for _, column := range z.G {
		g = append(g, near(products(w, exacts(column))))
	}
	for j, a := range z.R {
		lost = plus(lost, times(size(w[j]), oracle.Exact(a)))
	}
	up := oracle.Roundings(lost)
	if !ok || !up.Is[api.Up] {
		return 0, nil, 0, false
	}
	return c, g, up.Number[api.Up], true
}

// matrix is the exact weights of each row, and what stands beside: what the layer tells of the point 0, and how that is turned by a 1 at each coordinate.
func matrix(s sample) (w [][]*big.Rat, b []*big.Rat) {
	b = oracle.Tells(s.l, s.in, s.told(), noughts(s.size()))
	w = make([][]*big.Rat, len(b))
	for j := range s.size() {
		one := noughts(s.size())
		one[j] = big.NewRat(1, 1)
		for i, v := range oracle.Tells(s.l, s.in, s.told(), one) {
			w[i] = append(w[i], minus(v, b[i]))
		}
	}
	return w, b
}

// wantStep is the step of a layer that Step takes.
func wantStep(z api.Zono, s sample) api.Zono {
	w, b := matrix(s)
	n := len(b)
	if !isOne(z, s.size()) {
		return samples.BadZono(n)
	}
	y, columns := api.Zono{N: n}, make([][]float64, len(z.Ids))
	for i := range n {
		c, g, r, ok := wantImage(z, w[i], b[i])
		if !ok {
			return samples.BadZono(n)
		}
		y.C, y.R = append(y.C, c), append(y.R, r)
		for k, a := range g {
			columns[k] = append(columns[k], a)
		}
	}
	for k, column := range columns {
		for _, a := range column {
			if a != 0 {
				y.Ids, y.G = append(y.Ids, z.Ids[k]), append(y.G, column)
				break
			}
		}
	}
	return y
}

// someBox tells whether z has a box.
func someBox(z api.Zono) bool {
	for _, r := range z.R {
		if r > 0 {
			return true
		}
	}
	return false
}

// 12.1: the same answers, and each kind of answer comes up.
func TestTwinOfImages(t *testing.T) {
	var m oracle.Mixer
	seen := oracle.Tally{}
	for range 4000 {
		z := samples.AnyZono(&m)
		if m.Below(2) == 0 {
			z = someZono(&m, 1+m.Below(4))
		}
		number := samples.MixedKind(&m)
		w, b := listOf(max(z.N, 0)%300, number), number()
		if m.Below(20) == 0 {
			w = listOf(m.Below(4), number)
		}
		if m.Below(20) == 0 {
			b = api.Float(m.Word())
		}
		is := isOne(z, len(w)) && isNumber(b)
		if !is {
			expectNoImage(t, z, w, b)
			seen.Note("no zonotope, or no row of it", true)
			continue
		}
		c, g, r, ok := wantImage(z, exacts(w), oracle.Exact(b))
		if ok {
			expectImage(t, z, w, b, c, g, r)
		} else {
			expectNoImage(t, z, w, b)
		}
		if t.Failed() {
			return
		}
		seen.Note("no number", !ok)
		seen.Note("a box", ok && someBox(z))
		seen.Note("a loss", ok && !someBox(z) && r > 0)
		seen.Note("no loss", ok && !someBox(z) && r == 0)
		seen.Note("several columns", ok && len(g) > 2)
	}
	seen.Expect(t, 150, "no zonotope, or no row of it", "no number", "a box", "a loss", "no loss", "several columns")
}

// 12.2: likewise, of each kind.
func TestTwinOfSteps(t *testing.T) {
	var m oracle.Mixer
	seen, kinds := oracle.Tally{}, map[int]int{}
	for range 1500 {
		s := someLayer(&m)
		z := someZono(&m, s.size())
		if m.Below(8) == 0 {
			z = samples.AnyZono(&m)
		}
		want := wantStep(z, s)
		got, e := Step(z, s.l, s.in, 1+m.Below(16))
		if e != api.OK || !samples.SameZono(got, want) {
			t.Fatalf("Step of %s by %s over %v: %s %v, not %s", text(z), text(s.l), s.in, text(got), e, text(want))
		}
		one := isOne(z, s.size())
		seen.Note("no zonotope, or of other coordinates", !one)
		seen.Note("no number", one && want.Bad)
		seen.Note("fewer columns", one && !want.Bad && len(want.Ids) < len(z.Ids))
		seen.Note("as many columns", one && !want.Bad && len(want.Ids) == len(z.Ids) && len(z.Ids) > 0)
		seen.Note("a loss", one && !want.Bad && !someBox(z) && someBox(want))
		seen.Note("no loss", one && !want.Bad && !someBox(z) && !someBox(want))
		if one && !want.Bad {
			kinds[s.l.Kind]++
		}
	}
	seen.Expect(t, 40, "no zonotope, or of other coordinates", "no number", "fewer columns", "as many columns", "a loss", "no loss")
	for _, kind := range matrices() {
		if kinds[kind] < 80 {
			t.Errorf("the kind %d came up %d times only", kind, kinds[kind])
		}
	}
}

// 12.2: every layer of a network that may be, of each kind, whatever it asks for.
func TestTwinOfOrdinaryLayers(t *testing.T) {
	var m oracle.Mixer
	if len(ordinary()) != 5 {
		t.Fatalf("%d kinds", len(ordinary()))
	}
	for _, s := range ordinary() {
		for range 3 {
			z := someZono(&m, s.size())
			expectStep(t, z, s.l, s.in, wantStep(z, s))
		}
	}
}
