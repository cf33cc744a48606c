package split

import (
	"math/big"
	"testing"

	"ambit/api"
	"ambit/oracle"
	"ambit/samples"
	"ambit/zono"
)

// A second choice, of exact fractions, by the words of the chapter.

// sumOf is the sum of a claim's numbers times those of a column.
func sumOf(a, column []float64) *big.Rat {
	sum := new(big.Rat)
	for i, g := range column {
		sum.Add(sum, times(oracle.Exact(a[i]), oracle.Exact(g)))
	}
	return sum
}

// isNumber tells whether a float is a number.
func isNumber(a float64) bool { return a-a == 0 }

func areAll(l []float64) bool {
	for _, a := range l {
		if !isNumber(a) {
			return false
		}
	}
	return true
}

// A choice is a symbol, how great it is, and what it was found by.
type choice struct {
	symbol int
	size   *big.Rat
	by     string
	equal  bool
}

// offer takes a symbol in, if it is greater than those ahead.
func (c *choice) offer(symbol int, size *big.Rat, by string) {
	switch size = new(big.Rat).Abs(size); size.Cmp(c.size) {
	case 1:
		*c = choice{symbol, size, by, false}
	case 0:
		c.equal = c.symbol >= 0
	}
}

// wantChoice is what Choose tells.
func wantChoice(z api.Zono, a []float64, p api.Prop, r api.Region) choice {
	k := len(p.G)
	best := choice{symbol: -1, size: new(big.Rat)}
	if !isRegion(r, k) {
		return best
	}
	if zono.Check(z) == api.OK && !z.Bad && len(a) == z.N+1 && areAll(a) {
		for c, id := range z.Ids {
			if id < k {
				best.offer(id, sumOf(a, z.G[c]), "claim")
			}
		}
	}
	if best.symbol >= 0 {
		return best
	}
	best.equal = false
	for s, g := range p.G {
		if !areAll(g) {
			return choice{symbol: -1, size: new(big.Rat), by: "no number"}
		}
		length := new(big.Rat)
		for _, v := range g {
			length.Add(length, new(big.Rat).Abs(oracle.Exact(v)))
		}
		best.offer(s, times(length, oracle.Power(-r.Level[s])), "length")
	}
	return best
}

// someColumns are k lists of n numbers; often one is nearly, or without signs just, like one ahead of it.
func someColumns(m *oracle.Mixer, k, n int) [][]float64 {
	number := samples.MixedKind(m)
	if m.Below(8) == 0 {
		number = func() float64 { return 0 }
	}
	var all [][]float64
	for s := range k {
		g := make([]float64, n)
		for i := range g {
			g[i] = number()
		}
		if s > 0 && m.Below(2) == 0 {
			from, turned := all[m.Below(s)], float64(1-2*m.Below(2))
			for i := range g {
				g[i] = turned * from[i]
			}
			if i := m.Below(n); m.Below(2) == 0 && g[i] != 0 {
				g[i] = api.Float(api.Bits(g[i]) ^ 1)
			}
		}
		all = append(all, g)
	}
	return all
}

// someZono is a zonotope of columns like these, with Ids that rise from 0 on, by one mostly.
func someZono(m *oracle.Mixer, n int) api.Zono {
	z := of(n, nil, someColumns(m, m.Below(6), n)...)
	id := m.Below(2)
	for range z.G {
		z.Ids = append(z.Ids, id)
		id += 1 + m.Below(5)/4
	}
	return z
}

// someClaim is a claim of n coordinates, of numbers that are alike in something, or like a target's; sometimes it is 0 everywhere.
func someClaim(m *oracle.Mixer, n int) []float64 {
	a := make([]float64, n+1)
	switch m.Below(6) {
	case 0:
	case 1, 2:
		a[m.Below(n)]++
		a[m.Below(n)]--
	default:
		number := samples.MixedKind(m)
		for i := range a {
			a[i] = number()
		}
	}
	return a
}

// 18.6: the same choices.
func TestTwinOfChoose(t *testing.T) {
	t.Parallel()
	var m oracle.Mixer
	seen := oracle.Tally{}
	for range 20000 {
		n := 1 + m.Below(3)
		z := someZono(&m, n)
		if m.Below(6) == 0 {
			z = samples.BadZono(n)
		}
		a, k := someClaim(&m, n), m.Below(5)
		p, r := columned(someColumns(&m, k, 1+m.Below(3))...), samples.MixedRegion(&m, k)
		want := wantChoice(z, a, p, r)
		expectChoice(t, z, a, p, r, want.symbol)
		if t.Failed() {
			return
		}
		seen.Note("by the claim", want.by == "claim")
		seen.Note("by length", want.by == "length")
		seen.Note("equal by the claim", want.by == "claim" && want.equal)
		seen.Note("equal by length", want.by == "length" && want.equal)
		seen.Note("the first by the claim", want.by == "claim" && want.symbol == 0 && k > 1)
		seen.Note("the last by the claim", want.by == "claim" && want.symbol == k-1 && k > 1)
		seen.Note("the last by length", want.by == "length" && want.symbol == k-1 && k > 1)
		seen.Note("all are 0", want.symbol < 0 && k > 0)
		seen.Note("no symbol", k == 0)
		level := samples.Cube(k)
		if want.by == "length" {
			seen.Note("turned by the region", wantChoice(z, a, p, level).symbol != want.symbol)
		}
	}
	seen.Expect(t, 100, "by the claim", "by length", "equal by the claim", "equal by length", "the first by the claim", "the last by the claim", "the last by length", "all are 0", "no symbol", "turned by the region")
}
