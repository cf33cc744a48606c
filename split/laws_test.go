package split

import (
	"math/big"
	"slices"
	"testing"

	"ambit/api"
	"ambit/flow"
	"ambit/oracle"
	"ambit/samples"
)

// holds tells whether a point lies in a region, in exact fractions, by the words of chapter 16.
func holds(r api.Region, point []*big.Rat) bool {
	middle, far := samples.Middles(r)
	for s, v := range point {
		from := new(big.Rat).Sub(v, middle[s])
		if from.Abs(from).Cmp(far[s]) > 0 {
			return false
		}
	}
	return true
}

// point are the fractions of some parts of 2 to the depth.
func point(e []int, depth int) []*big.Rat {
	all := make([]*big.Rat, len(e))
	for s, n := range e {
		all[s] = share(n, depth)
	}
	return all
}

// near is a point that is in the region or close to it, at a depth: mostly at an end, at the middle, or next to one of them.
func near(m *oracle.Mixer, r api.Region, depth int) []int {
	middle, far := samples.Middles(r)
	e := make([]int, len(middle))
	for s := range e {
		v := plus(middle[s], times(far[s], whole(m.Below(3)-1)))
		if m.Below(3) == 0 {
			v = plus(middle[s], times(far[s], m.Share()))
		}
		v = times(v, oracle.Power(depth))
		e[s] = int(new(big.Int).Quo(v.Num(), v.Denom()).Int64())
		if m.Below(3) == 0 {
			e[s] += m.Below(3) - 1
		}
	}
	return e
}

// 18.8: a point of a region lies in one of its halves, in both just if it is on the cut; each point of a half lies in the region.
func TestHalvesHoldWhatRegionsHold(t *testing.T) {
	t.Parallel()
	var m oracle.Mixer
	seen := oracle.Tally{}
	for range 20000 {
		k := 1 + m.Below(3)
		r, s := samples.MixedRegion(&m, k), m.Below(k)
		lower, upper, e := Halve(r, s)
		if e != api.OK {
			continue
		}
		depth := []int{0, 1, 8, 9, 62, m.Below(63)}[m.Below(6)]
		x := near(&m, r, depth)
		middle, _ := samples.Middles(r)
		inside, below, above := Within(r, x, depth), Within(lower, x, depth), Within(upper, x, depth)
		onCut := share(x[s], depth).Cmp(middle[s]) == 0
		if inside != holds(r, point(x, depth)) || inside != (below || above) || (below && above) != (inside && onCut) {
			t.Fatalf("%v at %d: in %s %v, in the half below %v, above %v", x, depth, text(r), inside, below, above)
		}
		seen.Note("on the cut", below && above)
		seen.Note("below alone", below && !above)
		seen.Note("above alone", above && !below)
		seen.Note("outside", !inside)
		seen.Note("outside, but on the cut's plane", !inside && onCut)
		seen.Note("deep", inside && depth > 60)
	}
	seen.Expect(t, 100, "on the cut", "below alone", "above alone", "outside", "outside, but on the cut's plane", "deep")
}

// 18.8: every point of the cube, in parts of 2^9, lies in the parts of a level that the fractions say, and in no others.
func TestPartsOfALevelCoverTheCube(t *testing.T) {
	const depth = 9
	for level := range 9 {
		wide := 1 << (depth + 1 - level)
		for e := -1 << depth; e <= 1<<depth; e++ {
			for at := range 1 << level {
				from := -1<<depth + at*wide
				if got := Within(region(level, at), wholes(e), depth); got != (from <= e && e <= from+wide) {
					t.Fatalf("%d in %d of level %d: %v", e, at, level, got)
				}
			}
		}
	}
}

func someSigns(m *oracle.Mixer, k int) []int {
	signs := make([]int, k)
	for s := range signs {
		signs[s] = m.Below(3) - 1
	}
	return signs
}

// 18.8: what Ends tells lies within, at every depth the same point: the middle, or an end of each symbol.
func TestEndsLieWithin(t *testing.T) {
	t.Parallel()
	var m oracle.Mixer
	for range 3000 {
		k := m.Below(4)
		r, signs := samples.MixedRegion(&m, k), someSigns(&m, k)
		middle, far := samples.Middles(r)
		from := slices.Max(append(wholes(0), r.Level...))
		for depth := from; depth <= api.MaxDepth; depth++ {
			e, err := Ends(r, signs, depth)
			if err != api.OK || len(e) != k || !Within(r, e, depth) {
				t.Fatalf("Ends(%s, %v, %d): %v %v", text(r), signs, depth, e, err)
			}
			for s, v := range point(e, depth) {
				if v.Cmp(plus(middle[s], times(whole(signs[s]), far[s]))) != 0 {
					t.Fatalf("Ends(%s, %v, %d): %v", text(r), signs, depth, e)
				}
			}
		}
	}
}

// 18.8: next to the ends of a region is what lies within no more.
func TestBeyondTheEnds(t *testing.T) {
	var m oracle.Mixer
	for range 3000 {
		k := 1 + m.Below(3)
		r, signs := samples.MixedRegion(&m, k), someSigns(&m, k)
		e, _ := Ends(r, signs, api.MaxDepth)
		s := m.Below(k)
		if signs[s] == 0 {
			continue
		}
		e[s] += signs[s]
		expectWithin(t, r, e, api.MaxDepth, false)
	}
}

// 18.8: halved again and again, up to the greatest level: both halves are regions, one way further, and their ends meet at the cut.
func TestHalvesAgainAndAgain(t *testing.T) {
	var m oracle.Mixer
	for range 200 {
		k := 1 + m.Below(3)
		r, _ := Whole(k)
		for way := 0; ; way++ {
			expectCheck(t, r, k, api.OK)
			expectWay(t, r, way)
			s := m.Below(k)
			lower, upper, e := Halve(r, s)
			if r.Level[s] == api.MaxDepth {
				expectNoHalves(t, r, s, api.ErrArg)
				break
			}
			signs := make([]int, k)
			cut, _ := Ends(r, signs, api.MaxDepth)
			signs[s] = 1
			end, _ := Ends(lower, signs, api.MaxDepth)
			signs[s] = -1
			begin, _ := Ends(upper, signs, api.MaxDepth)
			if e != api.OK || !slices.Equal(cut, end) || !slices.Equal(cut, begin) {
				t.Fatalf("%s at %d: %v, and the halves meet at %v and %v", text(r), s, cut, end, begin)
			}
			r = []api.Region{lower, upper}[m.Below(2)]
		}
	}
}

// 18.8: what split takes for a region is what flow takes for one.
func TestRegionsAreThoseOfFlow(t *testing.T) {
	var m oracle.Mixer
	seen := oracle.Tally{}
	n := api.Net{In: samples.Line(1)}
	for range 3000 {
		k := m.Below(4)
		p := api.Prop{C: numbers(1), G: samples.Columns(k, 1), Target: -1, Claims: lists(numbers(1, 1)), K: 1, Looks: 1}
		r := samples.AnyRegion(&m, k)
		_, e := flow.Start(n, p, r)
		expectCheck(t, r, k, e)
		seen.Note("a region", e == api.OK)
		seen.Note("none", e == api.ErrRegion)
	}
	seen.Expect(t, 500, "a region", "none")
}

// 18.6, 18.8: a symbol that Choose names of a trace may be halved, as long as its level lets it.
func TestChosenSymbolsMayBeHalved(t *testing.T) {
	t.Parallel()
	var m oracle.Mixer
	seen := oracle.Tally{}
	for range 400 {
		n, p, r := samples.AskedOfKinds(&m, samples.EveryKind(), 0)
		trace, e := flow.Push(n, p, r, 1)
		if e != api.OK {
			t.Fatal(e)
		}
		z := trace.Z[len(n.Layers)]
		a := someClaim(&m, z.N)
		s := Choose(z, a, p, r)
		if want := wantChoice(z, a, p, r); s != want.symbol {
			t.Fatalf("Choose(%s, %v, %s, %s): %d, not %d", text(z), a, text(p), text(r), s, want.symbol)
		}
		seen.Note("none", s < 0)
		if s < 0 {
			continue
		}
		_, _, e = Halve(r, s)
		if (e == api.OK) != (r.Level[s] < api.MaxDepth) {
			t.Fatalf("Halve(%s, %d): %v", text(r), s, e)
		}
		seen.Note("halved", e == api.OK)
		seen.Note("of a bad one", z.Bad)
	}
	seen.Expect(t, 20, "none", "halved", "of a bad one")
}
