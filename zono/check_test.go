package zono

import (
	"math"
	"testing"

	"ambit/api"
	"ambit/oracle"
	"ambit/samples"
)

// 10.1: zonotopes, one coordinate and MaxWidth of them, Ids at 0 and at MaxId, no columns and columns of noughts.
func TestZonotopesAreTaken(t *testing.T) {
	for _, z := range ordinary() {
		expectCheck(t, z, api.OK)
	}
	empty := point(1)
	empty.Ids, empty.G = []int{}, [][]float64{}
	expectCheck(t, empty, api.OK)
}

// 10.1: bad ones of any N, with lists that are nil or empty.
func TestBadOnesAreTaken(t *testing.T) {
	for n := range api.MaxWidth + 1 {
		expectCheck(t, samples.BadZono(n), api.OK)
		expectCheck(t, api.Zono{N: n, Bad: true, C: numbers(), Ids: ids(), G: lists(), R: numbers()}, api.OK)
	}
}

// 10.1: what is neither.
func TestOthersAreRefused(t *testing.T) {
	for _, z := range samples.SpoiltZonos() {
		expectCheck(t, z, api.ErrZono)
	}
}

// Ahead of 10.1: what is neither a zonotope nor a bad one is taken for the bad one of 0 coordinates, by every call.
func TestOthersAreTakenAsBad(t *testing.T) {
	for _, z := range samples.SpoiltZonos() {
		expectSpans(t, "Bounds of "+text(z), Bounds(z), nil)
		for _, d := range [][]float64{nil, numbers(1), numbers(1, 1), numbers(1, 1, 1)} {
			expectSupport(t, z, d, 0, false)
		}
		for _, next := range []int{math.MinInt, -1, 0, 4, api.MaxId, math.MaxInt} {
			expectLift(t, z, next, samples.BadZono(0), next)
		}
		expect(t, "Box of "+text(z), Box(z), samples.BadZono(0))
		for _, other := range append(ordinary(), samples.BadZono(0), samples.BadZono(2), z) {
			expectPlus(t, z, other, samples.BadZono(0))
		}
		expectSame(t, z, samples.BadZono(0), true)
		expectSame(t, z, samples.BadZono(1), false)
		expectSame(t, z, first(), false)
		if t.Failed() {
			return
		}
	}
}

// 10.3 to 10.7: bad ones keep their coordinates.
func TestBadStaysBad(t *testing.T) {
	for _, n := range []int{0, 1, 2, 255, 256} {
		z := samples.BadZono(n)
		expectSpans(t, "Bounds", Bounds(z), nil)
		expectSupport(t, z, make([]float64, n), 0, false)
		expectLift(t, z, 0, z, 0)
		expectLift(t, z, -7, z, -7)
		expectLift(t, z, math.MaxInt, z, math.MaxInt)
		expect(t, "Box", Box(z), z)
		expectPlus(t, z, z, z)
		expectPlus(t, z, samples.BadZono((n+1)%257), samples.BadZono(0))
		expectPlus(t, z, samples.BadZono(0), samples.BadZono(0))
		if n > 0 {
			expectPlus(t, z, samples.WideZono(n, 2), z)
			expectPlus(t, z, samples.WideZono(n%256+1, 2), samples.BadZono(0))
		}
	}
}

// 10.8: whichever way two that are neither came to be so.
func TestOthersAreTheSame(t *testing.T) {
	all := samples.SpoiltZonos()
	for i, a := range all {
		expectSame(t, a, all[(i+7)%len(all)], true)
	}
}

// 10.8: two are the same as long as nothing in them has another value.
func TestSame(t *testing.T) {
	minus := oracle.MinusZero()
	for _, z := range ordinary() {
		expectSame(t, z, z, true)
		expectSame(t, z, fresh(z), true)
		expectSame(t, z, samples.BadZono(z.N), false)
		expectSame(t, z, samples.BadZono(0), false)
	}
	expectSame(t, of(numbers(0), ids(1), lists(numbers(minus)), numbers(0)), of(numbers(minus), ids(1), lists(numbers(0)), numbers(minus)), true)
	for i, change := range []func(z *api.Zono){
		func(z *api.Zono) { z.C[0] = math.Nextafter(1, 2) },
		func(z *api.Zono) { z.C[1] = -2 },
		func(z *api.Zono) { z.Ids[1] = 4 },
		func(z *api.Zono) { z.Ids, z.G = z.Ids[:1], z.G[:1] },
		func(z *api.Zono) { z.Ids, z.G = append(z.Ids, 9), append(z.G, numbers(0, 0)) },
		func(z *api.Zono) { z.Ids, z.G = nil, nil },
		func(z *api.Zono) { z.G[0][1] = oracle.Least },
		func(z *api.Zono) { z.G[1][1] = 1 },
		func(z *api.Zono) { z.G[0], z.G[1] = z.G[1], z.G[0] },
		func(z *api.Zono) { z.R[0] = oracle.Least },
		func(z *api.Zono) { z.R[1] = 0 },
		func(z *api.Zono) { *z = samples.WideZono(1, 2) },
		func(z *api.Zono) { z.Bad = true },
	} {
		z := first()
		change(&z)
		if Same(z, first()) || Same(first(), z) {
			t.Errorf("the change %d is not told", i)
		}
	}
	for n := range 5 {
		for k := range 5 {
			expectSame(t, samples.BadZono(n), samples.BadZono(k), n == k)
		}
	}
}
