package verify

import (
	"bytes"
	"math/big"
	"slices"
	"testing"

	"ambit/api"
	"ambit/cases"
	"ambit/code"
	"ambit/margin"
	"ambit/oracle"
	"ambit/samples"
)

// 19.7, W1: where it is robust, each claim's exact sum is at least the margin at points of the cube.
func TestRobustIsSo(t *testing.T) {
	t.Parallel()
	var m oracle.Mixer
	seen := oracle.Tally{}
	for range 700 {
		n, p := cases.Mixed(&m)
		v, e := Judge(n, p, 1+m.Below(4))
		if e != api.OK || v.Kind != api.Robust {
			continue
		}
		if v.Margin <= 0 {
			t.Fatalf("%s, %s: %+v", text(n), text(p), v)
		}
		for range 8 {
			for i, sum := range cases.SumsAt(n, p, cases.Shares(&m, len(p.G))) {
				if sum.Cmp(oracle.Exact(v.Margin)) < 0 {
					t.Fatalf("%s, %s: the claim %d is %v, below the margin of %+v", text(n), text(p), i, sum, v)
				}
				seen.Note("just so much", sum.Cmp(oracle.Exact(v.Margin)) == 0)
				seen.Note("more", sum.Cmp(oracle.Exact(v.Margin)) > 0)
			}
		}
		noteVerdict(seen, p, v)
		seen.Note("rises", slices.ContainsFunc(n.Layers, samples.Rises))
	}
	seen.Expect(t, 20, "just so much", "more", "robust at once", "robust by halves", "rises")
	seen.Expect(t, 5, "robust by many")
}

// 19.7, W3: where it is falsified, the point is one of the cube, and the claim's exact sum there is at most the margin, turned round.
func TestFalsifiedIsSo(t *testing.T) {
	t.Parallel()
	var m oracle.Mixer
	seen := oracle.Tally{}
	for range 900 {
		n, p := cases.Mixed(&m)
		v, f := Judge(n, p, 1+m.Below(4))
		if f != api.OK || v.Kind != api.Falsified {
			continue
		}
		if v.Margin <= 0 || len(v.E) != len(p.G) || v.Claim < 0 {
			t.Fatalf("%s, %s: %+v", text(n), text(p), v)
		}
		var e []*big.Rat
		for _, i := range v.E {
			if i < -1<<p.Depth || i > 1<<p.Depth {
				t.Fatalf("%s, %s: %+v is outside the cube", text(n), text(p), v)
			}
			e = append(e, big.NewRat(int64(i), 1<<p.Depth))
			seen.Note("within", i > -1<<p.Depth && i < 1<<p.Depth && i != 0)
		}
		sums := cases.SumsAt(n, p, e)
		if sums[v.Claim].Cmp(oracle.Exact(-v.Margin)) > 0 {
			t.Fatalf("%s, %s: %+v, but the sum is %v", text(n), text(p), v, sums[v.Claim])
		}
		noteVerdict(seen, p, v)
		seen.Note("rises", slices.ContainsFunc(n.Layers, samples.Rises))
	}
	seen.Expect(t, 20, "within", "falsified at once", "falsified in a half", "falsified by a later claim", "rises")
}

// 19.7, W4: no question is robust under one budget and falsified under another.
func TestNeverBoth(t *testing.T) {
	t.Parallel()
	var m oracle.Mixer
	seen := oracle.Tally{}
	for range 300 {
		n, p := cases.Mixed(&m)
		kinds := map[int]int{}
		for range 8 {
			p.K, p.Depth, p.Looks = 1+m.Below(8), m.Below(9), 1+m.Below(30)
			v, _ := Judge(n, p, 2)
			kinds[v.Kind]++
		}
		if kinds[api.Robust] > 0 && kinds[api.Falsified] > 0 {
			t.Fatalf("%s, %s: %v", text(n), text(p), kinds)
		}
		seen.Note("robust and unknown", kinds[api.Robust] > 0 && kinds[api.Unknown] > 0)
		seen.Note("falsified and unknown", kinds[api.Falsified] > 0 && kinds[api.Unknown] > 0)
	}
	seen.Expect(t, 10, "robust and unknown", "falsified and unknown")
}

// leastOver is the exact least sum of a claim over the cube, of a linear network: the sum at C less what each column changes.
func leastOver(n api.Net, p api.Prop, a []float64) *big.Rat {
	none := make([]*big.Rat, len(p.G))
	for s := range none {
		none[s] = new(big.Rat)
	}
	sum := func(e []*big.Rat) *big.Rat {
		return cases.Sum(a, samples.OutputsAt(n, samples.PointAt(p, samples.Cube(len(p.G)), e))[len(n.Layers)])
	}
	middle := sum(none)
	total := new(big.Rat).Set(middle)
	for s := range p.G {
		e := slices.Clone(none)
		e[s] = big.NewRat(1, 1)
		change := new(big.Rat).Sub(sum(e), middle)
		total.Sub(total, change.Abs(change))
	}
	return total
}

// 19.7, W5: a linear network, of which no column is trimmed, with least sums above what Idle tells, is robust at the first look, whatever the budgets are.
func TestNotIdle(t *testing.T) {
	t.Parallel()
	var m oracle.Mixer
	seen := oracle.Tally{}
	for range 1500 {
		n := samples.NetOfKinds(&m, samples.LinearKinds(), 0)
		n.Layers = n.Layers[:min(len(n.Layers), 3)]
		p := samples.MixedPropTo(&m, n)
		p.Target, p.K, p.G = -1, api.MaxK, p.G[:min(len(p.G), 2)]
		told, ok := margin.Idle(n, p)
		if !ok || !settle(n, p, oracle.Value(told)) {
			continue
		}
		if _, ok := margin.Idle(n, p); !ok {
			continue
		}
		v, e := Judge(n, p, 1+m.Below(4))
		if e != api.OK || v.Kind != api.Robust || v.Looked != 1 || v.Margin <= 0 {
			t.Fatalf("%s, %s: %+v %v", text(n), text(p), v, e)
		}
		seen.Note("layers", len(n.Layers) > 1)
		seen.Note("symbols", len(p.G) > 0)
		seen.Note("no halving", p.Depth == 0)
	}
	seen.Expect(t, 20, "layers", "symbols", "no halving")
}

// settle gives each claim the least constant with which its least sum is above a bound; false, if there is no such number.
func settle(n api.Net, p api.Prop, above *big.Rat) bool {
	for _, a := range p.Claims {
		last := len(a) - 1
		a[last] = 0
		gap := new(big.Rat).Sub(above, leastOver(n, p, a))
		is := oracle.Roundings(gap)
		if !is.Is[api.Up] || is.Number[api.Up] == most {
			return false
		}
		a[last] = is.Number[api.Up]
		if oracle.Exact(a[last]).Cmp(gap) == 0 {
			a[last] = nextAbove(a[last])
		}
	}
	return true
}

// nextAbove is the least number above one that is not the greatest.
func nextAbove(a float64) float64 {
	if a < 0 {
		return oracle.NumberAt(1 - int(api.Bits(-a)))
	}
	return oracle.NumberAt(int(api.Bits(a)) + 1)
}

// expectStays holds the verdict of greater budgets to that of lesser ones.
func expectStays(t *testing.T, n api.Net, p api.Prop, v api.Verdict, depth, looks int) {
	t.Helper()
	w, e := Judge(n, cases.Within(p, depth, looks), 3)
	want := v
	if v.Kind == api.Falsified {
		want.E = nil
		for _, i := range v.E {
			want.E = append(want.E, i<<(depth-p.Depth))
		}
		want.Looked = max(v.Looked, w.Looked)
	}
	if e != api.OK || !sameVerdict(w, want) {
		t.Errorf("%s, %s: %+v, but with depth %d and %d looks %+v", text(n), text(p), v, depth, looks, w)
	}
}

// 19.7, W6: a verdict stays with more looks, more depth, or both; but for Looked, where it is falsified, and for the parts in which E counts.
func TestVerdictsStay(t *testing.T) {
	t.Parallel()
	var m oracle.Mixer
	seen := oracle.Tally{}
	for range 500 {
		n, p := cases.Mixed(&m)
		if m.Below(2) == 0 {
			p.Depth, p.Looks = m.Below(4), 1+m.Below(12)
		}
		v, e := Judge(n, p, 2)
		if e != api.OK || v.Kind == api.Unknown {
			continue
		}
		more, deeper := p.Looks+m.Below(60), p.Depth+m.Below(9-p.Depth)
		expectStays(t, n, p, v, p.Depth, more)
		expectStays(t, n, p, v, deeper, p.Looks)
		expectStays(t, n, p, v, deeper, more)
		if t.Failed() {
			return
		}
		noteVerdict(seen, p, v)
	}
	seen.Expect(t, 10, "robust at once", "robust by halves", "falsified at once", "falsified in a half")
	// With more looks the other half is halved as well, and its halves are looked at beside those of the one that refutes.
	n, p := cases.Bumps(1.5, numbers(-0.75, 0.25)), cases.Within(cases.Unit(numbers(-1, 1)), 2, 5)
	expectVerdict(t, n, p, falsifiedAt(0, 0.5, 5, -3))
	expectVerdict(t, n, cases.Within(p, 2, 7), falsifiedAt(0, 0.5, 7, -3))
	expectVerdict(t, n, cases.Within(p, 4, 7), falsifiedAt(0, 0.5, 7, -12))
}

// 19.7, W7: every number of workers tells the same, and so does every call of the same.
func TestEveryCrewTellsTheSame(t *testing.T) {
	t.Parallel()
	var m oracle.Mixer
	seen := oracle.Tally{}
	for range 60 {
		n, p := cases.Mixed(&m)
		p.Looks = min(p.Looks, 25)
		want, e := Judge(n, p, 1)
		if e != api.OK {
			t.Fatal(e)
		}
		net, prop := encoded(t, n, p)
		for workers := 1; workers <= api.MaxWorkers; workers++ {
			expectJudge(t, n, p, workers, want)
			expectSide(t, nil, workers, net, prop, want)
		}
		if t.Failed() {
			return
		}
		noteVerdict(seen, p, want)
	}
	seen.Expect(t, 2, "robust at once", "robust by halves", "falsified at once", "falsified in a half", "several open")
	// Waves of many regions.
	n, p := long()
	p.Looks = 200
	want, _ := Judge(n, p, 1)
	for workers := 2; workers <= api.MaxWorkers; workers++ {
		expectJudge(t, n, p, workers, want)
	}
}

// 19.4, W9: bytes that are not malformed are decoded and encoded again as they were; what Judge takes has such bytes, and the same verdict.
func TestFormsStay(t *testing.T) {
	t.Parallel()
	var m oracle.Mixer
	for range 200 {
		n, p := cases.Mixed(&m)
		p.Looks = min(p.Looks, 5)
		net, prop := encoded(t, n, p)
		want, e := Judge(n, p, 1)
		if v := Verify(net, prop); e != api.OK || v.Kind == api.Malformed || !sameVerdict(v, want) {
			t.Fatalf("%s, %s: %+v, not %+v %v", text(n), text(p), v, want, e)
		}
		again, _, _ := code.DecodeNet(net)
		asked, _, _ := code.DecodeProp(prop)
		if !samples.SameNet(again, n) || !samples.SameProp(asked, p) {
			t.Fatalf("%s, %s: now %s, %s", text(n), text(p), text(again), text(asked))
		}
		a, b := encoded(t, again, asked)
		if !bytes.Equal(a, net) || !bytes.Equal(b, prop) {
			t.Fatalf("%s, %s: other bytes", text(n), text(p))
		}
	}
}

// 19.6: the radius that is told is proven, and the one behind it was not.
func TestRadiusIsProven(t *testing.T) {
	t.Parallel()
	var m oracle.Mixer
	seen := oracle.Tally{}
	for range 200 {
		n, p := cases.Mixed(&m)
		p.Looks = 1 + m.Below(6)
		bits := m.Below(8)
		radius, v, e := Radius(n, p, bits, 2)
		if e != api.OK || radius < -1 || radius > 1<<bits {
			t.Fatalf("%s, %s: %d %+v %v", text(n), text(p), radius, v, e)
		}
		at := func(i int) api.Verdict {
			v, _ := Judge(n, shrunk(p, float64(i)/float64(int(1)<<bits)), 1)
			return v
		}
		if w := at(max(radius, 0)); !sameVerdict(w, v) || (w.Kind == api.Robust) != (radius >= 0) {
			t.Fatalf("%s, %s: %d %+v, not %+v", text(n), text(p), radius, v, w)
		}
		if radius >= 0 && radius < 1<<bits && at(radius+1).Kind == api.Robust {
			t.Fatalf("%s, %s: %d, but the next one is robust", text(n), text(p), radius)
		}
		seen.Note("none", radius < 0)
		seen.Note("all", radius == 1<<bits)
		seen.Note("some", radius > 0 && radius < 1<<bits)
	}
	seen.Expect(t, 10, "none", "all", "some")
}
