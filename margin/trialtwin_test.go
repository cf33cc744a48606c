package margin

import (
	"math/big"
	"testing"

	"ambit/api"
	"ambit/oracle"
	"ambit/point"
	"ambit/samples"
	"ambit/walk"
)

// shares are signs as reals.
func shares(signs []int) []*big.Rat {
	var all []*big.Rat
	for _, sign := range signs {
		all = append(all, big.NewRat(int64(sign), 1))
	}
	return all
}

// place is the exact point of a call.
func (c call) place() []*big.Rat { return samples.PointAt(c.p, c.r, shares(c.signs)) }

// claims are those of a call that may be.
func (c call) claims() [][]float64 {
	_, out := samples.Widths(c.n)
	all, _ := wantClaims(c.p, out)
	return all
}

// wantTrial is what Trial tells of a call that may be, and in which way: by exact outputs or by spans, or why not; -1, if no claim tells.
func wantTrial(c call) (claim int, gap float64, way string) {
	x := c.place()
	var forms []api.Dyad
	for _, v := range x {
		form, _ := oracle.Form(v)
		forms = append(forms, form)
	}
	sum := exactSums
	y, e, _ := point.Eval(c.n, forms)
	var spans []api.Span
	way = "exact"
	if e != api.OK {
		way = "spans"
		for _, v := range x {
			is := oracle.Roundings(v)
			if !is.Is[api.Down] || !is.Is[api.Up] {
				return -1, 0, "beyond numbers"
			}
			spans = append(spans, samples.Between(is.Number[api.Down], is.Number[api.Up]))
		}
		var bad int
		if spans, _, bad = walk.Eval(c.n, spans); bad >= 0 {
			return -1, 0, "bad"
		}
		sum = spanSums
	}
	for i, a := range c.claims() {
		v := sum(a, y, spans)
		if v == nil {
			way = "a claim too long"
			continue
		}
		is := oracle.Roundings(new(big.Rat).Neg(v))
		if is.Is[api.Down] && is.Number[api.Down] > 0 {
			return i, is.Number[api.Down], way
		}
	}
	return -1, 0, way
}

// exactSums is a claim's sum of exact outputs; nil, if it is too long.
func exactSums(a []float64, y []api.Dyad, _ []api.Span) *big.Rat {
	var values []*big.Rat
	for _, x := range y {
		values = append(values, oracle.Value(x))
	}
	v := sumOf(a, values)
	if _, ok := oracle.Form(v); !ok {
		return nil
	}
	return v
}

// spanSums is the greatest sum of a claim over spans.
func spanSums(a []float64, _ []api.Dyad, y []api.Span) *big.Rat {
	sum := oracle.Exact(a[len(y)])
	for i, s := range y {
		lo, hi := times(oracle.Exact(a[i]), oracle.Exact(s.Lo)), times(oracle.Exact(a[i]), oracle.Exact(s.Hi))
		if lo.Cmp(hi) > 0 {
			hi = lo
		}
		sum = plus(sum, hi)
	}
	return sum
}

// expectTwin holds Trial to the twin, and tells what the twin told.
func (c call) expectTwin(t *testing.T) (claim int, way string) {
	t.Helper()
	claim, gap, way := wantTrial(c)
	if claim < 0 {
		c.expectNone(t)
	} else {
		c.expect(t, claim, gap)
	}
	return claim, way
}

// 17.5: the same answers, of networks of every kind.
func TestTwinOfTrials(t *testing.T) {
	t.Parallel()
	var m oracle.Mixer
	seen := oracle.Tally{}
	for range 3000 {
		c := someCall(&m, samples.EveryKind(), 0)
		claim, way := c.expectTwin(t)
		if t.Failed() {
			return
		}
		seen.Note(way, true)
		seen.Note(way+" tells", claim >= 0)
		seen.Note(way+" tells nothing", claim < 0)
		seen.Note("the first claim", claim == 0)
		seen.Note("a later claim", claim > 0)
		seen.Note("the last claim", claim > 0 && claim == len(c.claims())-1)
	}
	seen.Expect(t, 50, "exact tells", "exact tells nothing", "spans tells", "spans tells nothing", "bad", "the first claim", "a later claim", "the last claim")
	seen.Expect(t, 5, "beyond numbers")
}

// 17.5: of networks whose numbers grow too long.
func TestTwinOfLongTrials(t *testing.T) {
	t.Parallel()
	var m oracle.Mixer
	seen := oracle.Tally{}
	kinds := []int{api.KSquare, api.KSquare, api.KSquare, api.KSquare, api.KScale, api.KRelu, api.KLeaky}
	for range 800 {
		c := someCall(&m, kinds, 6+m.Below(8))
		for i := range c.p.C {
			c.p.C[i] = m.Number(m.Below(3) - 1)
		}
		claim, way := c.expectTwin(t)
		if t.Failed() {
			return
		}
		seen.Note(way, true)
		seen.Note(way+" tells", claim >= 0)
	}
	seen.Expect(t, 20, "exact tells", "spans tells", "bad")
	seen.Expect(t, 1, "a claim too long")
}

// 17.5: at every sign of every symbol of a region.
func TestTwinAtEverySign(t *testing.T) {
	t.Parallel()
	var m oracle.Mixer
	told := oracle.Tally{}
	for range 60 {
		c := someCall(&m, samples.EveryKind(), 1)
		if k := len(c.p.G); k < 1 || k > 3 {
			continue
		}
		all := 1
		for range c.signs {
			all *= 3
		}
		for i := range all {
			for s := range c.signs {
				c.signs[s] = i%3 - 1
				i /= 3
			}
			claim, _ := c.expectTwin(t)
			told.Note("tells", claim >= 0)
			told.Note("tells nothing", claim < 0)
		}
	}
	told.Expect(t, 50, "tells", "tells nothing")
}
