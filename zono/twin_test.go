package zono

import (
	"maps"
	"math/big"
	"slices"
	"testing"

	"ambit/api"
	"ambit/oracle"
	"ambit/samples"
)

// A second zono, of exact fractions, by the words of the chapter.

func isNumber(a float64) bool { return a-a == 0 }

func allNumbers(l []float64) bool {
	return !slices.ContainsFunc(l, func(a float64) bool { return !isNumber(a) })
}

// wantForm is 1 of a zonotope, 0 of a bad one, -1 of what is neither.
func wantForm(z api.Zono) int {
	if z.Bad {
		if z.N < 0 || z.N > 256 || len(z.C)+len(z.Ids)+len(z.G)+len(z.R) > 0 {
			return -1
		}
		return 0
	}
	ok := z.N >= 1 && z.N <= 256 && len(z.C) == z.N && len(z.R) == z.N && len(z.Ids) == len(z.G) && allNumbers(z.C) && allNumbers(z.R)
	for _, r := range z.R {
		ok = ok && !(r < 0)
	}
	for k, id := range z.Ids {
		ok = ok && id >= 0 && id <= 1<<30 && (k == 0 || z.Ids[k-1] < id)
	}
	for _, g := range z.G {
		ok = ok && len(g) == z.N && allNumbers(g)
	}
	if !ok {
		return -1
	}
	return 1
}

// wantWidth is the coordinates that a bad answer of z has.
func wantWidth(z api.Zono) int {
	if wantForm(z) < 0 {
		return 0
	}
	return z.N
}

func exact(a float64) *big.Rat { return oracle.Exact(a) }

func plus(a, b *big.Rat) *big.Rat { return new(big.Rat).Add(a, b) }

func minus(a, b *big.Rat) *big.Rat { return new(big.Rat).Sub(a, b) }

func times(a, b *big.Rat) *big.Rat { return new(big.Rat).Mul(a, b) }

func size(a *big.Rat) *big.Rat { return new(big.Rat).Abs(a) }

// products is the sum of the products of two lists.
func products(a, b []float64) *big.Rat {
	sum := new(big.Rat)
	for i := range a {
		sum = plus(sum, times(exact(a[i]), exact(b[i])))
	}
	return sum
}

// wantReach is s of 10.3.
func wantReach(z api.Zono, i int) *big.Rat {
	s := exact(z.R[i])
	for _, g := range z.G {
		s = plus(s, size(exact(g[i])))
	}
	return s
}

func wantBounds(z api.Zono) []api.Span {
	if wantForm(z) < 1 {
		return nil
	}
	var l []api.Span
	for i, c := range z.C {
		lo, hi := oracle.Roundings(minus(exact(c), wantReach(z, i))), oracle.Roundings(plus(exact(c), wantReach(z, i)))
		s := api.Span{Lo: lo.Number[api.Down], Hi: hi.Number[api.Up]}
		if !lo.Is[api.Down] || !hi.Is[api.Up] {
			s = api.Span{Bad: true}
		}
		l = append(l, s)
	}
	return l
}

// farthest is the exact sum that Support rounds up.
func farthest(z api.Zono, d []float64) *big.Rat {
	sum := products(d, z.C)
	for _, g := range z.G {
		sum = plus(sum, size(products(d, g)))
	}
	for i, r := range z.R {
		sum = plus(sum, times(size(exact(d[i])), exact(r)))
	}
	return sum
}

func wantSupport(z api.Zono, d []float64) (float64, bool) {
	if wantForm(z) < 1 || len(d) != z.N || !allNumbers(d) {
		return 0, false
	}
	r := oracle.Roundings(farthest(z, d))
	return r.Number[api.Up], r.Is[api.Up]
}

// value is a number as it is told: by its value alone.
func value(a float64) float64 {
	if a == 0 {
		return 0
	}
	return a
}

func values(l []float64) []float64 {
	var all []float64
	for _, a := range l {
		all = append(all, value(a))
	}
	return all
}

func wantLift(z api.Zono, next int) (api.Zono, int) {
	if wantForm(z) < 1 || next < 0 {
		return samples.BadZono(wantWidth(z)), next
	}
	for _, id := range z.Ids {
		if id >= next {
			return samples.BadZono(z.N), next
		}
	}
	y, n := of(values(z.C), slices.Clone(z.Ids), nil, make([]float64, z.N)), next
	for _, g := range z.G {
		y.G = append(y.G, values(g))
	}
	for i, r := range z.R {
		if r > 0 {
			if n > 1<<30 {
				return samples.BadZono(z.N), next
			}
			y.Ids, y.G = append(y.Ids, n), append(y.G, along(z.N, i, r))
			n++
		}
	}
	return y, n
}

func wantBox(z api.Zono) api.Zono {
	if wantForm(z) < 1 {
		return samples.BadZono(wantWidth(z))
	}
	y := of(values(z.C), nil, nil, nil)
	for i := range z.N {
		r := oracle.Roundings(wantReach(z, i))
		if !r.Is[api.Up] {
			return samples.BadZono(z.N)
		}
		y.R = append(y.R, r.Number[api.Up])
	}
	return y
}

// numberAt is z's number of an Id at a coordinate: 0, if z has not that Id.
func numberAt(z api.Zono, id, i int) *big.Rat {
	if k := slices.Index(z.Ids, id); k >= 0 {
		return exact(z.G[k][i])
	}
	return new(big.Rat)
}

// A loss goes on with what 10.7 sums up; once a number is none it is none for good.
type loss struct {
	sums []*big.Rat
	none bool
}

// near is near(v), with what it loses at a coordinate.
func (l *loss) near(i int, v *big.Rat) float64 {
	r := oracle.Roundings(v)
	if !r.Is[api.Near] {
		l.none = true
		return 0
	}
	l.sums[i] = plus(l.sums[i], size(minus(v, exact(r.Number[api.Near]))))
	return r.Number[api.Near]
}

func wantPlus(a, b api.Zono) api.Zono {
	if wantWidth(a) != wantWidth(b) {
		return samples.BadZono(0)
	}
	if wantForm(a) < 1 || wantForm(b) < 1 {
		return samples.BadZono(wantWidth(a))
	}
	l, y := loss{}, api.Zono{N: a.N}
	for i := range a.N {
		l.sums = append(l.sums, plus(exact(a.R[i]), exact(b.R[i])))
		y.C = append(y.C, l.near(i, plus(exact(a.C[i]), exact(b.C[i]))))
	}
	all := map[int]int{}
	for _, id := range append(slices.Clone(a.Ids), b.Ids...) {
		all[id] = 1
	}
	for _, id := range slices.Sorted(maps.Keys(all)) {
		g, noughts := []float64{}, true
		for i := range a.N {
			g = append(g, l.near(i, plus(numberAt(a, id, i), numberAt(b, id, i))))
			noughts = noughts && g[i] == 0
		}
		if !noughts {
			y.Ids, y.G = append(y.Ids, id), append(y.G, g)
		}
	}
	for i := range a.N {
		r := oracle.Roundings(l.sums[i])
		l.none = l.none || !r.Is[api.Up]
		y.R = append(y.R, r.Number[api.Up])
	}
	if l.none {
		return samples.BadZono(a.N)
	}
	return y
}

func wantSame(a, b api.Zono) bool {
	if wantForm(a) < 1 || wantForm(b) < 1 {
		return wantForm(a) < 1 && wantForm(b) < 1 && wantWidth(a) == wantWidth(b)
	}
	if a.N != b.N || len(a.Ids) != len(b.Ids) {
		return false
	}
	for k := range a.Ids {
		if a.Ids[k] != b.Ids[k] || !samples.SameNumbers(values(a.G[k]), values(b.G[k])) {
			return false
		}
	}
	return samples.SameNumbers(values(a.C), values(b.C)) && samples.SameNumbers(values(a.R), values(b.R))
}

// someDirection is one of n coordinates, or now and then another.
func someDirection(m *oracle.Mixer, n int) []float64 {
	switch m.Below(5) {
	case 0:
		return samples.MixedNumbers(m, m.Below(4))
	case 1:
		return along(max(n, 1), m.Below(max(n, 1)), m.Number(0))
	}
	d := make([]float64, n)
	for i := range d {
		d[i] = m.Number(m.Below(3) - 1)
	}
	return d
}

// someNext is a number at which something changes.
func someNext(m *oracle.Mixer) int {
	return []int{-1, 0, 1, 2, 4, 7, 8, api.MaxId - 2, api.MaxId - 1, api.MaxId, api.MaxId + 1, api.MaxId + 2}[m.Below(12)]
}

// turned is z with another sign at some of its numbers: with z itself they cancel.
func turned(m *oracle.Mixer, z api.Zono) api.Zono {
	y := fresh(z)
	for _, g := range y.G {
		for i := range g {
			if m.Below(3) > 0 {
				g[i] = -g[i]
			}
		}
	}
	return y
}

// somePair are two zonotopes that are handed in together.
func somePair(m *oracle.Mixer) (api.Zono, api.Zono) {
	n := 1 + m.Below(3)
	a := samples.MixedZono(m, n)
	switch m.Below(4) {
	case 0:
		return samples.AnyZono(m), samples.AnyZono(m)
	case 1:
		return a, turned(m, a)
	case 2:
		return a, a
	}
	return a, samples.MixedZono(m, n)
}

// 10.1 to 10.8: the same answers, and each kind of answer comes up.
func TestTwin(t *testing.T) {
	var m oracle.Mixer
	seen := map[string]int{}
	for range 4000 {
		a, b := somePair(&m)
		if (Check(a) == api.OK) != (wantForm(a) >= 0) {
			t.Errorf("Check of %s: %d", text(a), Check(a))
		}
		expectSpans(t, "Bounds of "+text(a), Bounds(a), wantBounds(a))
		d, next := someDirection(&m, wantWidth(a)), someNext(&m)
		far, told := wantSupport(a, d)
		expectSupport(t, a, d, far, told)
		lifted, behind := wantLift(a, next)
		expectLift(t, a, next, lifted, behind)
		boxed, sum := wantBox(a), wantPlus(a, b)
		expect(t, "Box of "+text(a), Box(a), boxed)
		expectPlus(t, a, b, sum)
		expectSame(t, a, b, wantSame(a, b))
		expect(t, "New", New(a.C, a.G), wantNew(a.C, a.G))
		if t.Failed() {
			return
		}
		count(seen, "neither", wantForm(a) < 0)
		count(seen, "a support", told)
		count(seen, "no support of a zonotope", !told && wantForm(a) > 0)
		count(seen, "lifted", behind > next)
		count(seen, "not lifted", lifted.Bad && wantForm(a) > 0)
		count(seen, "boxed", !boxed.Bad)
		count(seen, "not boxed", boxed.Bad && wantForm(a) > 0)
		count(seen, "a sum", !sum.Bad && len(sum.Ids) > len(a.Ids))
		count(seen, "a sum of fewer columns", !sum.Bad && len(sum.Ids) < len(a.Ids))
		count(seen, "no sum of zonotopes", sum.Bad && sum.N > 0 && wantForm(a)+wantForm(b) == 2)
		count(seen, "the same", wantSame(a, b))
	}
	for _, name := range []string{"neither", "a support", "no support of a zonotope", "lifted", "not lifted", "boxed", "not boxed", "a sum", "a sum of fewer columns", "no sum of zonotopes", "the same"} {
		if seen[name] < 40 {
			t.Errorf("%s came up %d times only", name, seen[name])
		}
	}
}

func count(seen map[string]int, name string, is bool) {
	if is {
		seen[name]++
	}
}

func wantNew(c []float64, g [][]float64) api.Zono {
	if len(c) < 1 || len(c) > 256 || !allNumbers(c) {
		return samples.BadZono(0)
	}
	z := point(values(c)...)
	for k, l := range g {
		if len(l) != len(c) || !allNumbers(l) {
			return samples.BadZono(0)
		}
		z.Ids, z.G = append(z.Ids, k), append(z.G, values(l))
	}
	return z
}
