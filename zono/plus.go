package zono

import (
	"maps"
	"math"
	"slices"

	"ambit/acc"
	"ambit/api"
	"ambit/round"
)

// A pair is what two zonotopes have of one Id.
type pair struct{ a, b []float64 }

// merged are the pairs of all Ids that one of two zonotopes has, with noughts for the one that has it not.
func merged(a, b api.Zono) map[int]pair {
	noughts := make([]float64, a.N)
	all := make(map[int]pair, len(a.Ids)+len(b.Ids))
	for id, g := range columns(a) {
		all[id] = pair{g, noughts}
	}
	for id, g := range columns(b) {
		p, both := all[id]
		if !both {
			p.a = noughts
		}
		p.b = g
		all[id] = p
	}
	return all
}

// sumOf is the zonotope of all sums of two with as many coordinates; false, if one of its numbers is none.
func sumOf(a, b api.Zono) (api.Zono, bool) {
	lost := accsOf(a.R)
	addSizes(lost, b.R)
	c, ok := nearest(pair{a.C, b.C}, lost)
	if !ok {
		return api.Zono{}, false
	}
	z := api.Zono{N: a.N, C: c}
	all := merged(a, b)
	for _, id := range slices.Sorted(maps.Keys(all)) {
		g, ok := nearest(all[id], lost)
		if !ok {
			return api.Zono{}, false
		}
		// A sum of two numbers that rounds to 0 is 0: so nothing is lost with a column of noughts.
		if slices.ContainsFunc(g, func(x float64) bool { return x != 0 }) {
			z.Ids, z.G = append(z.Ids, id), append(z.G, g)
		}
	}
	z.R, ok = roundedUp(lost)
	return z, ok
}

// nearest are the numbers nearest to the sums of a pair; what each rounding took or gave is added to lost.
func nearest(p pair, lost []*acc.Acc) ([]float64, bool) {
	l := make([]float64, len(lost))
	for i := range l {
		s, rest, ok := round.Sum2(p.a[i], p.b[i])
		if !ok {
			return nil, false
		}
		lost[i].Add(math.Abs(rest))
		l[i] = s
	}
	return l, true
}
