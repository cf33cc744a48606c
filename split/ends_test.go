package split

import (
	"math/big"
	"slices"
	"testing"

	"ambit/api"
	"ambit/oracle"
	"ambit/samples"
)

// 18.5: every part, each sign, at each depth: the middle, and how far it goes from there, in exact fractions.
func TestEndsOfEachPart(t *testing.T) {
	for _, p := range parts() {
		r := region(p[0], p[1])
		middle, far := samples.Middles(r)
		for sign := -1; sign <= 1; sign++ {
			for depth := range 9 {
				if depth < p[0] {
					expectNoEnds(t, r, wholes(sign), depth, api.ErrArg)
					continue
				}
				want := times(plus(middle[0], times(whole(sign), far[0])), oracle.Power(depth))
				if !want.IsInt() {
					t.Fatalf("%v is no whole number", want)
				}
				expectEnds(t, r, wholes(sign), depth, int(want.Num().Int64()))
			}
		}
	}
}

// 18.5: reckoned by hand: the whole cube, the first and the last part, a depth that is just the level, and the greatest one.
func TestEndsByHand(t *testing.T) {
	expectEnds(t, region(0, 0), wholes(-1), 0, -1)
	expectEnds(t, region(0, 0), wholes(0), 0, 0)
	expectEnds(t, region(0, 0), wholes(1), 0, 1)
	expectEnds(t, region(0, 0, 0, 0, 0, 0), wholes(-1, 0, 1), 8, -256, 0, 256)
	expectEnds(t, region(8, 0, 8, 0, 8, 0), wholes(-1, 0, 1), 8, -256, -255, -254)
	expectEnds(t, region(8, 255, 8, 255, 8, 255), wholes(-1, 0, 1), 8, 254, 255, 256)
	expectEnds(t, region(3, 5, 3, 5, 3, 5), wholes(-1, 0, 1), 3, 2, 3, 4)
	expectEnds(t, region(3, 5, 3, 5, 3, 5), wholes(-1, 0, 1), 5, 8, 12, 16)
	expectEnds(t, region(1, 0, 1, 1), wholes(1, -1), 1, 0, 0)
}

// 18.5: each symbol has its own sign, part and end; as many symbols as may be, and none.
func TestEndsOfManySymbols(t *testing.T) {
	for depth := range 9 {
		expectEnds(t, api.Region{}, nil, depth)
		expectEnds(t, api.Region{Level: wholes(), At: wholes()}, wholes(), depth)
	}
	r, signs, want := samples.Cube(256), make([]int, 256), make([]int, 256)
	for s := range want {
		r.Level[s], r.At[s], signs[s] = 8, s, s%3-1
		want[s] = -256 + 2*s + 1 + signs[s]
	}
	expectEnds(t, r, signs, 8, want...)
}

// 18.5: signs that are none, wherever they stand.
func TestEndsOfNoSigns(t *testing.T) {
	for _, sign := range append(strange(), 2, 3, 256) {
		if sign == -1 {
			continue
		}
		for s := range 3 {
			signs := wholes(1, 0, -1)
			signs[s] = sign
			expectNoEnds(t, region(0, 0, 1, 1, 2, 2), signs, 2, api.ErrArg)
			expectNoEnds(t, region(0, 0, 1, 1, 2, 2), signs, 8, api.ErrArg)
		}
	}
}

// 18.5: depths outside, and depths below a level, wherever that stands.
func TestEndsAtNoDepths(t *testing.T) {
	for _, depth := range append(strange(), 9, 10, 62, 63, 64) {
		expectNoEnds(t, region(0, 0, 1, 1), wholes(0, 0), depth, api.ErrArg)
		expectNoEnds(t, api.Region{}, nil, depth, api.ErrArg)
	}
	for level := 1; level <= 8; level++ {
		for s := range 3 {
			r := region(0, 0, 0, 0, 0, 0)
			r.Level[s] = level
			expectNoEnds(t, r, wholes(0, 0, 0), level-1, api.ErrArg)
			expectNoEnds(t, r, wholes(1, 1, 1), 0, api.ErrArg)
			want := slices.Repeat(wholes(1<<level), 3)
			want[s] = -1<<level + 2
			expectEnds(t, r, wholes(1, 1, 1), level, want...)
		}
	}
}

// 18.5: not as many signs as symbols, nil among them.
func TestEndsOfOtherCounts(t *testing.T) {
	for k := range 4 {
		for n := range 6 {
			if n != k {
				expectNoEnds(t, samples.Cube(k), make([]int, n), 3, api.ErrCount)
			}
		}
	}
	expectNoEnds(t, samples.Cube(2), nil, 3, api.ErrCount)
	expectNoEnds(t, samples.Cube(256), make([]int, 255), 3, api.ErrCount)
	expectNoEnds(t, samples.Cube(256), make([]int, 257), 3, api.ErrCount)
}

// 18.5, rule 5: a region that is none comes first, then how many signs there are, then what they are and the depth.
func TestFirstErrorsOfEnds(t *testing.T) {
	for _, r := range noRegions() {
		for _, signs := range [][]int{nil, make([]int, len(r.Level)), slices.Repeat(wholes(7), len(r.Level)), make([]int, 3)} {
			for _, depth := range []int{-1, 0, 8, 9} {
				expectNoEnds(t, r, signs, depth, api.ErrRegion)
			}
		}
	}
	for _, depth := range []int{-1, 0, 9} {
		expectNoEnds(t, region(1, 0), wholes(0, 0), depth, api.ErrCount)
		expectNoEnds(t, region(1, 0), wholes(5, 5), depth, api.ErrCount)
		expectNoEnds(t, region(1, 0), nil, depth, api.ErrCount)
	}
}

// 18.7: every part against points at each end, next to it and between, in exact fractions.
func TestWithinEachPart(t *testing.T) {
	for _, p := range parts() {
		r := region(p[0], p[1])
		middle, far := samples.Middles(r)
		for depth := range 63 {
			for _, sign := range []int{-1, 0, 1} {
				near := times(plus(middle[0], times(whole(sign), far[0])), oracle.Power(depth))
				e := int(new(big.Int).Quo(near.Num(), near.Denom()).Int64())
				for _, step := range []int{-2, -1, 0, 1, 2} {
					from := plus(share(e+step, depth), new(big.Rat).Neg(middle[0]))
					expectWithin(t, r, wholes(e+step), depth, from.Abs(from).Cmp(far[0]) <= 0)
				}
			}
		}
	}
}

// 18.7: both ends of a region are in it, and what is just outside is not, as fine as may be.
func TestWithinAtTheEnds(t *testing.T) {
	const one = 1 << 62
	expectWithin(t, region(0, 0), wholes(one), 62, true)
	expectWithin(t, region(0, 0), wholes(one+1), 62, false)
	expectWithin(t, region(0, 0), wholes(-one), 62, true)
	expectWithin(t, region(0, 0), wholes(-one-1), 62, false)
	expectWithin(t, region(8, 255), wholes(one), 62, true)
	expectWithin(t, region(8, 255), wholes(one+1), 62, false)
	expectWithin(t, region(8, 255), wholes(one-one/128), 62, true)
	expectWithin(t, region(8, 255), wholes(one-one/128-1), 62, false)
	expectWithin(t, region(8, 0), wholes(-one), 62, true)
	expectWithin(t, region(8, 0), wholes(-one-1), 62, false)
	expectWithin(t, region(8, 0), wholes(-one+one/128), 62, true)
	expectWithin(t, region(8, 0), wholes(-one+one/128+1), 62, false)
}

// 18.7: on a cut both sides hold a point, next to it one.
func TestWithinOnACut(t *testing.T) {
	for _, depth := range []int{1, 8, 30, 62} {
		for e, holds := range map[int][2]bool{-1: {true, false}, 0: {true, true}, 1: {false, true}} {
			expectWithin(t, region(1, 0), wholes(e), depth, holds[0])
			expectWithin(t, region(1, 1), wholes(e), depth, holds[1])
		}
	}
	// At the depth 0 there are but three points: the ends and the middle.
	for e, at := range map[int][]int{-1: {0}, 0: {127, 128}, 1: {255}} {
		for place := range 256 {
			expectWithin(t, region(8, place), wholes(e), 0, slices.Contains(at, place))
		}
	}
}

// 18.7: numbers as great as an int holds lie outside, at each depth.
func TestWithinOfGreatNumbers(t *testing.T) {
	for _, e := range strange() {
		for depth := range 63 {
			inside := share(e, depth)
			want := inside.Abs(inside).Cmp(whole(1)) <= 0
			expectWithin(t, region(0, 0), wholes(e), depth, want)
			lower := want && e <= 0
			expectWithin(t, region(1, 0), wholes(e), depth, lower)
			expectWithin(t, region(1, 1), wholes(e), depth, want && e >= 0)
		}
	}
}

// 18.7: every symbol counts.
func TestWithinBySymbols(t *testing.T) {
	r := region(0, 0, 1, 1, 2, 0)
	expectWithin(t, r, wholes(-4, 0, -4), 2, true)
	expectWithin(t, r, wholes(4, 4, -2), 2, true)
	expectWithin(t, r, wholes(5, 4, -2), 2, false)
	expectWithin(t, r, wholes(4, -1, -2), 2, false)
	expectWithin(t, r, wholes(4, 4, -1), 2, false)
	wide, e := samples.Cube(256), make([]int, 256)
	expectWithin(t, wide, e, 0, true)
	for _, s := range []int{0, 100, 255} {
		e[s] = 2
		expectWithin(t, wide, e, 0, false)
		expectWithin(t, wide, e, 1, true)
		e[s] = 0
	}
	for depth := range 63 {
		expectWithin(t, api.Region{}, nil, depth, true)
		expectWithin(t, api.Region{Level: wholes(), At: wholes()}, wholes(), depth, true)
	}
}

// 18.7: no region, other lengths, depths outside.
func TestWithinOfWrongInputs(t *testing.T) {
	for _, r := range noRegions() {
		for _, e := range [][]int{nil, make([]int, len(r.Level)), make([]int, len(r.At))} {
			expectWithin(t, r, e, 0, false)
			expectWithin(t, r, e, 62, false)
		}
	}
	for k := range 4 {
		for n := range 6 {
			expectWithin(t, samples.Cube(k), make([]int, n), 3, n == k)
		}
	}
	for _, depth := range append(strange(), 63, 64, 65, 128) {
		expectWithin(t, region(0, 0), wholes(0), depth, false)
		expectWithin(t, api.Region{}, nil, depth, false)
	}
}
