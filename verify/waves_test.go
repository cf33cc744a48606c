package verify

import (
	"testing"

	"ambit/api"
	"ambit/cases"
)

// 19.2, 19.3: a region, its halves and their halves, as far as Depth and Looks let them: the quarters alone are settled.
func TestBudgets(t *testing.T) {
	n := cases.Kinks(-0.5, 0.5)
	want := func(depth, looks int) api.Verdict {
		switch {
		case depth == 0 || looks < 3:
			return unknown(1, -1, 1)
		case depth == 1 || looks < 5:
			return unknown(2, -1, 3)
		case looks < 7:
			// The first half was halved, the second one was not.
			return unknown(1, -1, 5)
		}
		return robust(0.125, 7)
	}
	for depth := range api.MaxDepth + 1 {
		for _, looks := range []int{1, 2, 3, 4, 5, 6, 7, 8, 1024} {
			expectVerdict(t, n, cases.Within(cases.Unit(numbers(1, 0.125)), depth, looks), want(depth, looks))
		}
	}
}

// 19.2: what is settled in a wave is not halved, and costs no looks in the next one.
func TestSettledRegionsAreNotHalved(t *testing.T) {
	for at, places := range [][]float64{{-0.75}, {-0.25}, {0.25}, {0.75}} {
		// Where its region is halved three times, the place is at the middle, and then at an end.
		n := cases.Kinks(places...)
		p := cases.Unit(numbers(1, 0.0625))
		expectVerdict(t, n, p, robust(0.0625, 7))
		for looks, want := range map[int]api.Verdict{2: unknown(1, -1, 1), 4: unknown(1, -1, 3), 6: unknown(1, -1, 5), 7: robust(0.0625, 7)} {
			expectVerdict(t, n, cases.Within(p, 3, looks), want)
		}
		// A bump at that place is found at the middle of its quarter.
		e := 2*at - 3
		p.Claims = lists(numbers(-1, 1))
		expectVerdict(t, cases.Bumps(1.5, places), cases.Within(p, 2, 5), falsifiedAt(0, 0.5, 5, e))
		expectVerdict(t, cases.Bumps(1.5, places), cases.Within(p, 8, 1024), falsifiedAt(0, 0.5, 5, e<<6))
		expectVerdict(t, cases.Bumps(1.5, places), cases.Within(p, 2, 4), unknown(1, -1, 3))
	}
}

// 19.2: where several regions of a wave refute, the first of them ends all; the whole wave counts as looked at.
func TestFirstOfAWave(t *testing.T) {
	p := cases.Within(cases.Unit(numbers(-1, 1)), 1, 3)
	expectVerdict(t, cases.Bumps(1.5, numbers(-0.5, 0.5)), p, falsifiedAt(0, 0.5, 3, -1))
	expectVerdict(t, cases.Bumps(1.5, numbers(0.5, -0.5)), p, falsifiedAt(0, 0.5, 3, -1))
	expectVerdict(t, cases.Bumps(1.5, numbers(0.5)), p, falsifiedAt(0, 0.5, 3, 1))
	// The second half refutes the first claim, the first half the second one, and by less.
	p.Claims = lists(numbers(-1, 0, 1), numbers(0, -1, 1.25))
	expectVerdict(t, cases.Bumps(1.5, numbers(0.5), numbers(-0.5)), p, falsifiedAt(1, 0.25, 3, -1))
	expectVerdict(t, cases.Bumps(1.5, numbers(-0.5), numbers(0.5)), p, falsifiedAt(0, 0.5, 3, -1))
	// Quarters: the wave's order is that of their halves.
	q := cases.Within(cases.Unit(numbers(-1, 1)), 2, 7)
	for at := range 4 {
		all := []float64{-0.75, -0.25, 0.25, 0.75}[at:]
		looked := 7
		if at >= 2 {
			// The lower half was settled.
			looked = 5
		}
		expectVerdict(t, cases.Bumps(1.5, all), q, falsifiedAt(0, 0.5, looked, 2*at-3))
	}
	// What Looks leaves out is not asked.
	expectVerdict(t, cases.Bumps(1.5, numbers(-0.75, 0.25)), cases.Within(q, 2, 6), falsifiedAt(0, 0.5, 5, -3))
	plain := cases.Kinks(-0.5)
	n := cases.Bumps(1.5, numbers(0.25))
	n.Layers[0].W, n.Layers[0].B = append(n.Layers[0].W, plain.Layers[0].W...), append(n.Layers[0].B, plain.Layers[0].B...)
	n.Layers[0].Out, n.Layers[2].W = len(n.Layers[0].B), append(n.Layers[2].W, 8, -8)
	expectVerdict(t, n, cases.Within(q, 2, 6), unknown(1, -1, 5))
	expectVerdict(t, n, cases.Within(q, 2, 7), falsifiedAt(0, 0.5, 7, 1))
}

// 19.2: the lower half of each stands ahead of its upper one, by whichever symbol it was halved.
func TestHalvesOfSeveralSymbols(t *testing.T) {
	// Both halves of the second symbol have a bump at their middle, whatever the first one is.
	n := cases.Bumps(1.5, numbers(-0.5, 0.5))
	p := cases.Asked(lists(numbers(-1, 1)), numbers(0), numbers(0), numbers(1), numbers(0))
	expectVerdict(t, n, cases.Within(p, 3, 3), falsifiedAt(0, 0.5, 3, 0, -4, 0))
	p.G[1] = numbers(-1)
	expectVerdict(t, n, cases.Within(p, 3, 3), falsifiedAt(0, 0.5, 3, 0, -4, 0))
	// Turned round, the lower half is the one above 0.
	n = cases.Bumps(1.5, numbers(0.5))
	expectVerdict(t, n, cases.Within(p, 3, 3), falsifiedAt(0, 0.5, 3, 0, -4, 0))
	p.G[1] = numbers(1)
	expectVerdict(t, n, cases.Within(p, 3, 3), falsifiedAt(0, 0.5, 3, 0, 4, 0))
}

// 19.2: where Choose names no symbol there is nothing to be halved, whatever the budgets are.
func TestNothingToBeHalved(t *testing.T) {
	n := netOf(1)
	for _, claim := range lists(numbers(1, 0), numbers(0, 0)) {
		expectVerdict(t, n, cases.Asked(lists(claim), numbers(0)), unknown(1, -1, 1))
		expectVerdict(t, n, cases.Asked(lists(claim), numbers(0), numbers(0), numbers(0)), unknown(1, -1, 1))
	}
	// With a column that is not 0 it is halved as long as it may be: each half of a claim that is 0 stays open.
	expectVerdict(t, n, cases.Within(cases.Asked(lists(numbers(0, 0)), numbers(0), numbers(0), numbers(1)), 2, 1024), unknown(4, -1, 7))
	// As long as Looks lets it: 1 and 2 and 4 and so on, till 8 halvings, or as many as fit in 1024.
	all := cases.Asked(lists(numbers(0, 0)), numbers(0), numbers(1))
	expectVerdict(t, n, all, unknown(256, -1, 511))
	expectVerdict(t, n, cases.Within(all, 8, 510), unknown(255, -1, 509))
	expectVerdict(t, n, cases.Within(all, 8, 256), unknown(128, -1, 255))
	expectVerdict(t, n, cases.Within(all, 7, 1024), unknown(128, -1, 255))
}

// 19.3: the margin is the least one of all settled regions, whichever wave they are of.
func TestLeastMarginOfAll(t *testing.T) {
	sloped := func(slope float64) api.Net {
		n := cases.Kinks(0.5)
		n.Layers[0] = dense(numbers(1, 1, 1), numbers(-0.5, -0.5, 1))
		n.Layers[2] = dense(numbers(1, -1, slope), numbers(-slope))
		return n
	}
	// The lower half has the least one, 0.25; the upper one has 0.5.
	expectVerdict(t, sloped(0.5), cases.Unit(numbers(1, 0.75)), robust(0.25, 3))
	// The lower half has 0.75, the quarters of the upper one 0.5 and 0.25.
	expectVerdict(t, sloped(-0.5), cases.Unit(numbers(1, 0.75)), robust(0.25, 5))
	// Claims take turns: the lower half has 0.25 of the first one, a quarter of the upper half 0.125 of the second one.
	expectVerdict(t, sloped(0.5), cases.Unit(numbers(1, 0.75), numbers(-1, 0.625)), robust(0.125, 5))
}

// 19.3: Bad is that of the region that stayed open first, in the order of waves and regions.
func TestBadOfTheFirstOpenOne(t *testing.T) {
	n := netOf(1, scale(4, 0))
	p := func(g float64, depth, looks int) api.Prop {
		return cases.Within(cases.Asked(lists(numbers(1, 0)), numbers(0x1p1022), numbers(g)), depth, looks)
	}
	// From 0 to 2^1023: what has its middle at 2^1022 or above is bad; what reaches 0 is not settled.
	expectVerdict(t, n, p(0x1p1022, 0, 1), unknown(1, 1, 1))
	expectVerdict(t, n, p(0x1p1022, 1, 3), unknown(2, -1, 3))
	expectVerdict(t, n, p(-0x1p1022, 1, 3), unknown(2, 1, 3))
	// The one that Looks leaves open is of an earlier wave than those of the next one.
	expectVerdict(t, n, p(0x1p1022, 2, 5), unknown(2, 1, 5))
	expectVerdict(t, n, p(-0x1p1022, 2, 5), unknown(3, -1, 5))
	// The input itself may be bad.
	plain := cases.Asked(lists(numbers(1, 0)), numbers(most), numbers(most))
	expectVerdict(t, netOf(1), cases.Within(plain, 0, 1), unknown(1, -1, 1))
	expectVerdict(t, netOf(1), cases.Within(plain, 1, 3), unknown(2, -1, 3))
	plain.G[0][0] = -most
	expectVerdict(t, netOf(1), cases.Within(plain, 1, 3), unknown(2, 0, 3))
	// And a later layer.
	n.Layers = []api.Layer{scale(1, 0), kind(api.KRelu), scale(4, 0), scale(1, 0)}
	expectVerdict(t, n, p(0x1p1022, 0, 1), unknown(1, 3, 1))
	expectVerdict(t, n, p(-0x1p1022, 1, 3), unknown(2, 3, 3))
}
