package oracle

import (
	"math/big"

	"ambit/api"
)

// Spread is C and the sum of the columns of a zonotope, at values of their Ids.
func Spread(z api.Zono, e map[int]*big.Rat) []*big.Rat {
	var all []*big.Rat
	for i, c := range z.C {
		v := Exact(c)
		for k, id := range z.Ids {
			v.Add(v, times(e[id], Exact(z.G[k][i])))
		}
		all = append(all, v)
	}
	return all
}
