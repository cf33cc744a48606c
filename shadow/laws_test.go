package shadow

import (
	"math/big"
	"slices"
	"testing"

	"ambit/api"
	"ambit/oracle"
	"ambit/samples"
)

// laws goes through mixed zonotopes, each with two of its coordinates and a direction.
func laws(rounds int, law func(m *oracle.Mixer, z api.Zono, i, j int, d complex128)) {
	var m oracle.Mixer
	for range rounds {
		z, i, j := mixed(&m)
		law(&m, z, i, j, mixedDirection(&m, z, i, j))
	}
}

// held is a point of the zonotope, at shares of its symbols and of its box: the pair of two coordinates.
func held(m *oracle.Mixer, z api.Zono, i, j int) spot {
	e := map[int]*big.Rat{}
	for _, id := range z.Ids {
		e[id] = m.Share()
	}
	x := oracle.Spread(z, e)
	for k, r := range z.R {
		x[k] = plus(x[k], times(m.Share(), oracle.Exact(r)))
	}
	return spot{x[i], x[j]}
}

// 21.4: no point of the zonotope goes farther than Reach.
func TestShadowHolds(t *testing.T) {
	t.Parallel()
	seen := oracle.Tally{}
	laws(4000, func(m *oracle.Mixer, z api.Zono, i, j int, d complex128) {
		far, e := Reach(z, i, j, d)
		if e != api.OK {
			return
		}
		for range 4 {
			v := spotOf(d).dot(held(m, z, i, j))
			if v.Cmp(oracle.Exact(far)) > 0 {
				t.Fatalf("%s reaches to %x along %x on %d and %d, and has a point at %v", text(z), far, d, i, j, v)
			}
			seen.Note("as far", v.Cmp(oracle.Exact(far)) == 0 && far != 0)
			seen.Note("less far", v.Cmp(oracle.Exact(far)) < 0)
		}
	})
	seen.Expect(t, 200, "as far", "less far")
}

// 21.4: nor farther than the side that lies ahead of it, of the corners told, but for what these are off.
func TestPolygonHolds(t *testing.T) {
	t.Parallel()
	seen := oracle.Tally{}
	laws(1500, func(m *oracle.Mixer, z api.Zono, i, j int, _ complex128) {
		p, far, e := Polygon(z, i, j)
		if e != api.OK {
			return
		}
		at := held(m, z, i, j)
		for k, a := range spotsOf(p) {
			way := spotOf(p[(k+1)%len(p)]).plus(-1, a)
			// To the right of a side, by no more than both its ends and its way may be off.
			slack := times(oracle.Exact(far), plus(size(way.x), size(way.y)))
			from := at.plus(-1, a)
			slack = plus(slack, times(times(whole(2), oracle.Exact(far)), plus(size(from.x), size(from.y))))
			slack = plus(slack, times(whole(4), times(oracle.Exact(far), oracle.Exact(far))))
			if way.cross(from).Sign() < 0 && size(way.cross(from)).Cmp(slack) > 0 {
				t.Fatalf("%s on %d and %d: a point lies outside %s", text(z), i, j, text(p))
			}
			seen.Note("exact", far == 0 && len(p) > 2)
			seen.Note("off", far > 0 && len(p) > 2)
		}
	})
	seen.Expect(t, 500, "exact", "off")
}

// 21.5: along any direction the corners told reach as far as Reach tells, but for what they are off.
func TestCornersReach(t *testing.T) {
	t.Parallel()
	seen := oracle.Tally{}
	laws(4000, func(m *oracle.Mixer, z api.Zono, i, j int, d complex128) {
		p, far, e := Polygon(z, i, j)
		if e != api.OK {
			return
		}
		to := spotOf(d)
		slack := times(oracle.Exact(far), plus(size(to.x), size(to.y)))
		greatest := to.dot(spotOf(p[0]))
		for _, a := range p {
			if v := to.dot(spotOf(a)); v.Cmp(greatest) > 0 {
				greatest = v
			}
		}
		exact := exactReach(z, i, j, d)
		if greatest.Cmp(minus(exact, slack)) < 0 {
			t.Fatalf("%s on %d and %d: no corner of %s lies as far along %x as %v", text(z), i, j, text(p), d, exact)
		}
		told, e := Reach(z, i, j, d)
		if e == api.OK && greatest.Cmp(plus(oracle.Exact(told), slack)) > 0 {
			t.Fatalf("%s on %d and %d: a corner of %s lies farther along %x than %x", text(z), i, j, text(p), d, told)
		}
		seen.Note("no reach", e != api.OK)
		seen.Note("exact", e == api.OK && far == 0)
		seen.Note("off", e == api.OK && far > 0)
		seen.Note("farther", greatest.Cmp(exact) > 0)
		seen.Note("less far", greatest.Cmp(exact) < 0)
	})
	seen.Expect(t, 50, "no reach", "exact", "off", "farther", "less far")
}

// 21.5: far is the least number that will do: some corner's part is off by more than the number below.
func TestFarIsLeast(t *testing.T) {
	t.Parallel()
	seen := oracle.Tally{}
	laws(3000, func(m *oracle.Mixer, z api.Zono, i, j int, _ complex128) {
		p, far, e := Polygon(z, i, j)
		if e != api.OK {
			return
		}
		greatest := new(big.Rat)
		for k, c := range wantCorners(z, i, j) {
			off := c.plus(-1, spotOf(p[k]))
			for _, v := range []*big.Rat{size(off.x), size(off.y)} {
				if v.Cmp(greatest) > 0 {
					greatest = v
				}
			}
		}
		if greatest.Cmp(oracle.Exact(far)) > 0 || far > 0 && greatest.Cmp(oracle.Exact(oracle.NumberAt(int(api.Bits(far))-1))) <= 0 {
			t.Fatalf("%s on %d and %d: off by %v, told %x", text(z), i, j, greatest, far)
		}
		seen.Note("exact", far == 0)
		seen.Note("off", far > 0)
		seen.Note("off by less", greatest.Cmp(oracle.Exact(far)) < 0)
	})
	seen.Expect(t, 50, "exact", "off", "off by less")
}

// exactPolygons goes through zonotopes of mostly small whole numbers, of those whose corners are told exactly.
func exactPolygons(t *testing.T, rounds int, law func(z api.Zono, i, j int, p []spot)) {
	t.Helper()
	var m oracle.Mixer
	exact := 0
	few := func() float64 { return float64(m.Below(9) - 4) }
	for range rounds {
		z := of(complex(few(), few()), complex(max(few(), 0), max(few(), 0)), mixedVectors(&m, few)...)
		i, j := m.Below(2), m.Below(2)
		if p, far, e := Polygon(z, i, j); e == api.OK && far == 0 {
			exact++
			law(z, i, j, spotsOf(p))
		}
	}
	if exact < rounds/2 {
		t.Errorf("%d were exact only", exact)
	}
}

// 21.6: about its middle a polygon is the same.
func TestSymmetry(t *testing.T) {
	t.Parallel()
	exactPolygons(t, 5000, func(z api.Zono, i, j int, p []spot) {
		middle := spot{oracle.Exact(z.C[i]), oracle.Exact(z.C[j])}
		for k, a := range p {
			other := p[(k+len(p)/2)%len(p)]
			if !a.plus(1, other).same(middle.plus(1, middle)) {
				t.Fatalf("%s on %d and %d: %v", text(z), i, j, p)
			}
		}
	})
	// Parts that are rounded are so at either end alike, about 0.
	laws(3000, func(m *oracle.Mixer, z api.Zono, i, j int, _ complex128) {
		clear(z.C)
		p, _, _ := Polygon(z, i, j)
		for k, a := range p {
			if p[(k+len(p)/2)%len(p)] != -a {
				t.Fatalf("%s on %d and %d: %s", text(z), i, j, text(p))
			}
		}
	})
}

// 21.6: each turn is to the left, from the lowest corner on, of two as low from the one on the left.
func TestTurnsToTheLeft(t *testing.T) {
	t.Parallel()
	seen := oracle.Tally{}
	exactPolygons(t, 5000, func(z api.Zono, i, j int, p []spot) {
		if !p[0].same(lowest(p)) {
			t.Fatalf("%s on %d and %d begins at %v", text(z), i, j, p[0])
		}
		seen.Note("few", len(p) < 4)
		for k, a := range p {
			b, c := p[(k+1)%len(p)], p[(k+2)%len(p)]
			if len(p) >= 4 && b.plus(-1, a).cross(c.plus(-1, b)).Sign() <= 0 {
				t.Fatalf("%s on %d and %d: no turn to the left at %v", text(z), i, j, b)
			}
			seen.Note("corners", len(p) >= 4)
		}
	})
	seen.Expect(t, 1000, "few", "corners")
}

// 21.6: ahead of rounding each side turns to the left of the one ahead of it, however little, and the first and the last one by less than half a turn.
func TestSidesTurnToTheLeft(t *testing.T) {
	t.Parallel()
	turns := 0
	laws(5000, func(m *oracle.Mixer, z api.Zono, i, j int, _ complex128) {
		sides := sidesOf(vectorsOf(z, i, j))
		for k, s := range sides {
			for _, v := range s {
				if v := spotOf(v); v.y.Sign() < 0 || v.y.Sign() == 0 && v.x.Sign() <= 0 || spotOf(s[0]).cross(v).Sign() != 0 {
					t.Fatalf("%s on %d and %d: %x", text(z), i, j, sides)
				}
			}
			for _, ahead := range sides[:k] {
				turns++
				if spotOf(ahead[0]).cross(spotOf(s[0])).Sign() <= 0 {
					t.Fatalf("%s on %d and %d: %x", text(z), i, j, sides)
				}
			}
		}
	})
	if turns < 5000 {
		t.Errorf("%d turns only", turns)
	}
}

// pairsArea is four times the sum over all pairs of vectors.
func pairsArea(z api.Zono, i, j int) *big.Rat {
	sum := new(big.Rat)
	vectors := wantVectors(z, i, j)
	for k, u := range vectors {
		for _, v := range vectors[:k] {
			sum = plus(sum, size(u.cross(v)))
		}
	}
	return times(whole(4), sum)
}

// 21.6: a polygon's area is four times the sum over all pairs of its vectors.
func TestAreaOfPairs(t *testing.T) {
	t.Parallel()
	seen := oracle.Tally{}
	exactPolygons(t, 5000, func(z api.Zono, i, j int, exact []spot) {
		want, _ := pairsArea(z, i, j).Float64()
		p, _, _ := Polygon(z, i, j)
		expectArea(t, p, want)
		seen.Note("none", want == 0)
		seen.Note("some", want > 0)
	})
	laws(1500, func(m *oracle.Mixer, z api.Zono, i, j int, _ complex128) {
		p, far, e := Polygon(z, i, j)
		r := oracle.Roundings(pairsArea(z, i, j))
		if e != api.OK || far > 0 {
			return
		}
		if r.Is[api.Near] {
			expectArea(t, p, r.Number[api.Near])
		} else {
			expectNoArea(t, p)
		}
		seen.Note("rounded", r.Number[api.Near] != r.Number[api.Up] || r.Number[api.Near] != r.Number[api.Down])
	})
	seen.Expect(t, 30, "none", "some", "rounded")
}

// mirrored are corners with their parts exchanged.
func mirrored(p []complex128) []complex128 {
	var all []complex128
	for _, a := range p {
		all = append(all, complex(imag(a), real(a)))
	}
	return all
}

// inOrder are points by their parts.
func inOrder(p []complex128) []complex128 {
	return slices.SortedFunc(slices.Values(p), func(a, b complex128) int {
		return slices.Compare(numbers(real(a), imag(a)), numbers(real(b), imag(b)))
	})
}

// 21.7: the coordinates the other way tell the mirror's corners, as far off; or neither tells any.
func TestMirror(t *testing.T) {
	t.Parallel()
	seen := oracle.Tally{}
	laws(10000, func(m *oracle.Mixer, z api.Zono, i, j int, d complex128) {
		p, far, e := Polygon(z, i, j)
		q, off, f := Polygon(z, j, i)
		if e != f || !oracle.Same(far, off) || !slices.EqualFunc(inOrder(mirrored(p)), inOrder(q), samples.SameComplex) {
			t.Fatalf("%s on %d and %d: %s %x %v, the other way %s %x %v", text(z), i, j, text(p), far, e, text(q), off, f)
		}
		r, e := Reach(z, i, j, d)
		if s, f := Reach(z, j, i, complex(imag(d), real(d))); e != f || !oracle.Same(r, s) {
			t.Fatalf("%s on %d and %d along %x: %x %v, the other way %x %v", text(z), i, j, d, r, e, s, f)
		}
		a, ok := Area(p)
		if b, is := Area(q); ok != is || !oracle.Same(a, b) {
			t.Fatalf("%s on %d and %d: %x %v, the other way %x %v", text(z), i, j, a, ok, b, is)
		}
		seen.Note("corners", i != j && len(p) > 2)
		seen.Note("another order", !slices.Equal(mirrored(p), q))
		seen.Note("no number", p == nil)
	})
	seen.Expect(t, 300, "corners", "another order", "no number")
}

// Numbers: the sign of a nought turns nothing, and none is told.
func TestSignsOfNoughts(t *testing.T) {
	t.Parallel()
	flip := func(l []float64) []float64 {
		all := slices.Clone(l)
		for i, a := range all {
			if a == 0 {
				all[i] = -a
			}
		}
		return all
	}
	noughts := 0
	laws(5000, func(m *oracle.Mixer, z api.Zono, i, j int, d complex128) {
		y := samples.Zonotope(flip(z.C), z.Ids, nil, flip(z.R))
		for _, g := range z.G {
			y.G = append(y.G, flip(g))
		}
		p, far, e := Polygon(z, i, j)
		if e == api.OK {
			expectPolygon(t, y, i, j, far, p...)
		} else {
			expectNoPolygon(t, y, i, j, e)
		}
		turned := flip(numbers(real(d), imag(d)))
		if r, e := Reach(z, i, j, d); e == api.OK {
			expectReach(t, y, i, j, complex(turned[0], turned[1]), r)
		}
		for _, a := range p {
			for _, b := range numbers(real(a), imag(a)) {
				if oracle.Same(b, oracle.MinusZero()) {
					t.Errorf("%s on %d and %d: %s", text(z), i, j, text(p))
				}
				if b == 0 {
					noughts++
				}
			}
		}
		if t.Failed() {
			t.FailNow()
		}
	})
	if noughts < 500 {
		t.Errorf("%d noughts only", noughts)
	}
}
