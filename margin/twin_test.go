package margin

import (
	"math/big"
	"testing"

	"ambit/api"
	"ambit/oracle"
	"ambit/samples"
)

// A second margin, of exact fractions, by the words of the chapter.

func plus(a, b *big.Rat) *big.Rat { return new(big.Rat).Add(a, b) }

func minus(a, b *big.Rat) *big.Rat { return new(big.Rat).Sub(a, b) }

func times(a, b *big.Rat) *big.Rat { return new(big.Rat).Mul(a, b) }

func size(a *big.Rat) *big.Rat { return new(big.Rat).Abs(a) }

func exacts(l []float64) []*big.Rat {
	var all []*big.Rat
	for _, a := range l {
		all = append(all, oracle.Exact(a))
	}
	return all
}

// along is the sum of a claim's numbers times others, without the constant.
func along(a []float64, y []*big.Rat) *big.Rat {
	sum := new(big.Rat)
	for i, v := range y {
		sum = plus(sum, times(oracle.Exact(a[i]), v))
	}
	return sum
}

// sumOf is a claim's sum.
func sumOf(a []float64, y []*big.Rat) *big.Rat {
	return plus(along(a, y), oracle.Exact(a[len(y)]))
}

// spreadAt is the point of a zonotope at whole values of its columns, in their order.
func spreadAt(z api.Zono, e []int) []*big.Rat {
	values := map[int]*big.Rat{}
	for k, id := range z.Ids {
		values[id] = big.NewRat(int64(e[k]), 1)
	}
	return oracle.Spread(z, values)
}

// wantMargin is what Margin rounds.
func wantMargin(z api.Zono, a []float64) *big.Rat {
	sum := sumOf(a, exacts(z.C))
	for _, g := range z.G {
		sum = minus(sum, size(along(a, exacts(g))))
	}
	for i, r := range z.R {
		sum = minus(sum, size(times(oracle.Exact(a[i]), oracle.Exact(r))))
	}
	return sum
}

// someClaim is a claim of n coordinates, of numbers that are alike in something, or like a target's.
func someClaim(m *oracle.Mixer, n int) []float64 {
	a := make([]float64, n+1)
	if m.Below(3) == 0 {
		a[m.Below(n)]++
		a[m.Below(n)]--
		return a
	}
	number := samples.MixedKind(m)
	for i := range a {
		a[i] = number()
	}
	return a
}

// 17.2: the same margins.
func TestTwinOfMargins(t *testing.T) {
	t.Parallel()
	var m oracle.Mixer
	seen := oracle.Tally{}
	for range 6000 {
		z := samples.MixedZono(&m, 1+m.Below(4))
		a := someClaim(&m, z.N)
		v := wantMargin(z, a)
		want := oracle.Roundings(v)
		if want.Is[api.Down] {
			expectMargin(t, z, a, want.Number[api.Down])
		} else {
			expectNoMargin(t, z, a)
		}
		if t.Failed() {
			return
		}
		seen.Note("none", !want.Is[api.Down])
		seen.Note("the greatest", want.Number[api.Down] == most)
		seen.Note("0", want.Is[api.Down] && want.Number[api.Down] == 0)
		seen.Note("rounded", want.Is[api.Down] && want.Number[api.Down] != want.Number[api.Up])
		seen.Note("above 0", want.Number[api.Down] > 0)
		seen.Note("below 0", want.Number[api.Down] < 0)
	}
	seen.Expect(t, 50, "none", "the greatest", "0", "rounded", "above 0", "below 0")
}

// 17.3: the same places and margins.
func TestTwinOfWorst(t *testing.T) {
	t.Parallel()
	var m oracle.Mixer
	seen := oracle.Tally{}
	for range 3000 {
		z := samples.MixedZono(&m, 1+m.Below(3))
		var claims [][]float64
		for range m.Below(5) {
			claims = append(claims, someClaim(&m, z.N))
			if m.Below(4) == 0 {
				claims = append(claims, claims[m.Below(len(claims))])
			}
		}
		at, least, ok := 0, 0.0, len(claims) > 0
		equal := false
		for i, a := range claims {
			is := oracle.Roundings(wantMargin(z, a))
			ok = ok && is.Is[api.Down]
			v := is.Number[api.Down]
			equal = equal || i > 0 && v == least
			if i == 0 || v < least {
				at, least, equal = i, v, false
			}
		}
		if ok {
			expectWorst(t, z, claims, at, least)
		} else {
			expectNoWorst(t, z, claims)
		}
		if t.Failed() {
			return
		}
		seen.Note("no claim", len(claims) == 0)
		seen.Note("none", !ok && len(claims) > 1)
		seen.Note("equal", ok && equal)
		seen.Note("the first of several", ok && at == 0 && len(claims) > 1)
		seen.Note("a later one", ok && at > 0)
		seen.Note("the last of several", ok && at > 1 && at == len(claims)-1)
	}
	seen.Expect(t, 50, "no claim", "none", "equal", "the first of several", "a later one", "the last of several")
}

// 17.4: the same signs.
func TestTwinOfSigns(t *testing.T) {
	t.Parallel()
	var m oracle.Mixer
	seen := oracle.Tally{}
	for range 4000 {
		z := samples.MixedZono(&m, 1+m.Below(3))
		a := someClaim(&m, z.N)
		k := m.Below(10)
		want := make([]int, k)
		for c, id := range z.Ids {
			sign := along(a, exacts(z.G[c])).Sign()
			if id < k {
				want[id] = -sign
			}
			seen.Note("-1", id < k && sign > 0)
			seen.Note("1", id < k && sign < 0)
			seen.Note("0", id < k && sign == 0)
			seen.Note("beyond", id >= k)
		}
		expectSigns(t, z, a, k, want...)
		if t.Failed() {
			return
		}
	}
	seen.Expect(t, 100, "-1", "1", "0", "beyond")
}
