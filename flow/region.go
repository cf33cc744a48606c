package flow

import (
	"ambit/acc"
	"ambit/api"
)

// isRegion tells whether r is a region of k symbols.
func isRegion(r api.Region, k int) bool {
	if len(r.Level) != k || len(r.At) != k {
		return false
	}
	for s, level := range r.Level {
		if level < 0 || level > api.MaxDepth || r.At[s] < 0 || r.At[s] >= 1<<level {
			return false
		}
	}
	return true
}

// zonotopeOf is the zonotope of a question's region.
func zonotopeOf(p api.Prop, r api.Region) api.Zono {
	n := len(p.C)
	z := api.Zono{N: n, C: make([]float64, n), R: make([]float64, n)}
	for s := range p.G {
		z.Ids, z.G = append(z.Ids, s), append(z.G, make([]float64, n))
	}
	for i := range n {
		lost := acc.New()
		z.C[i] = settle(middle(p, r, i), lost)
		for s, g := range p.G {
			z.G[s][i] = settle(halved(g[i], r.Level[s]), lost)
		}
		far, ok := lost.Round(api.Up)
		if !ok {
			return api.Zono{N: n, Bad: true}
		}
		z.R[i] = far
	}
	return z
}

// middle is the i-th coordinate of the region's middle, exactly.
func middle(p api.Prop, r api.Region, i int) *acc.Acc {
	v := acc.New()
	v.Add(p.C[i])
	for s, g := range p.G {
		level, at := r.Level[s], r.At[s]
		v.Prod(float64(2*at+1-1<<level), g[i], -level)
	}
	return v
}

// halved is a number that was halved so often, exactly.
func halved(a float64, level int) *acc.Acc {
	v := acc.New()
	v.Prod(a, 1, -level)
	return v
}

// settle is the number nearest to v. What that rounding takes or gives is added to lost, and is all that is left in v; where there is no such number, lost is bad.
func settle(v, lost *acc.Acc) float64 {
	a, ok := v.Round(api.Near)
	if !ok {
		lost.Join(nil, false)
		return 0
	}
	v.Add(-a)
	v.Abs()
	lost.Join(v, false)
	return a
}
