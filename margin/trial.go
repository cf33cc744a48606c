package margin

import (
	"slices"

	"ambit/acc"
	"ambit/api"
	"ambit/flow"
	"ambit/point"
	"ambit/walk"
)

// A finding is a claim that doesn't hold at a point, and its gap: its sum there is at most the gap turned round.
type finding struct {
	claim int
	gap   float64
}

// firstFinding is that of the first claim that tells at a point of the region. It gives up, if none does, or nothing can be asked.
func firstFinding(n api.Net, p api.Prop, r api.Region, signs []int) finding {
	if _, e := flow.Start(n, p, r); e != api.OK || !areSigns(signs, len(p.G)) {
		giveUp()
	}
	tell, m := outputsAt(n, pointOf(p, r, signs))
	// The question was looked at: there is no error.
	claims, _ := Claims(p, m)
	for i, a := range claims {
		// down of a sum turned round is up of the sum, turned round.
		if most, ok := tell(a); ok && most < 0 {
			return finding{i, -most}
		}
	}
	giveUp()
	return finding{}
}

// areSigns tells whether there is a sign for each of k symbols.
func areSigns(signs []int, k int) bool {
	none := func(sign int) bool { return sign < -1 || sign > 1 }
	return len(signs) == k && !slices.ContainsFunc(signs, none)
}

// pointOf is the exact point at which each symbol lies at the middle of the region, or at the end that its sign tells.
func pointOf(p api.Prop, r api.Region, signs []int) []api.Dyad {
	parts := make([]int, len(signs))
	for s, sign := range signs {
		level := r.Level[s]
		parts[s] = (2*r.At[s] + 1 + sign - 1<<level) << (api.MaxDepth - level)
	}
	x, e := point.Input(p, parts, api.MaxDepth)
	if e != api.OK {
		giveUp()
	}
	return x
}

// A teller tells what a claim's sum is at most at a point, rounded up; false, if there is no such number, or nothing is known.
type teller func(a []float64) (float64, bool)

// outputsAt is what tells of a network's outputs at a point, and how many outputs there are. Where they can't be told exactly, they are held by spans.
func outputsAt(n api.Net, x []api.Dyad) (teller, int) {
	if y, e, _ := point.Eval(n, x); e == api.OK {
		return exactly(y), len(y)
	}
	v := make([]api.Span, len(x))
	for i := range x {
		v[i] = around(x[i])
	}
	y, e, bad := walk.Eval(n, v)
	if e != api.OK || bad >= 0 {
		giveUp()
	}
	return within(y), len(y)
}

// around is the least span that holds an exact number.
func around(x api.Dyad) api.Span {
	lo, low := point.Round(api.Down, x)
	hi, high := point.Round(api.Up, x)
	if !low || !high {
		giveUp()
	}
	return api.Span{Lo: lo, Hi: hi}
}

// exactly tells of exact outputs.
func exactly(y []api.Dyad) teller {
	return func(a []float64) (float64, bool) {
		v, e := point.Claim(a, y)
		if e != api.OK {
			return 0, false
		}
		return point.Round(api.Up, v)
	}
}

// within tells of outputs that lie in spans.
func within(y []api.Span) teller {
	return func(a []float64) (float64, bool) {
		sum := acc.New()
		for i, s := range y {
			most := s.Hi
			if a[i] < 0 {
				most = s.Lo
			}
			sum.Prod(a[i], most, 0)
		}
		sum.Add(a[len(y)])
		return sum.Round(api.Up)
	}
}
