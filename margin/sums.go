package margin

import (
	"math"
	"slices"

	"ambit/acc"
	"ambit/api"
	"ambit/round"
	"ambit/zono"
)

// isClaimOver tells whether z is a zonotope that is not bad, and a may be a claim of its coordinates.
func isClaimOver(z api.Zono, a []float64) bool {
	return zono.Check(z) == api.OK && !z.Bad && len(a) == z.N+1 && !hasNoNumber(a)
}

func hasNoNumber(l []float64) bool {
	return slices.ContainsFunc(l, func(a float64) bool { return !round.Number(a) })
}

// leastSum is the least sum of a claim over a zonotope, exactly.
func leastSum(z api.Zono, a []float64) *acc.Acc {
	sum := weighed(a, z.C)
	sum.Add(a[z.N])
	for _, g := range z.G {
		change := weighed(a, g)
		change.Abs()
		sum.Join(change, true)
	}
	for i, r := range z.R {
		sum.Prod(-math.Abs(a[i]), r, 0)
	}
	return sum
}

// weighed is the exact sum of all numbers of a list, each times its number in a claim, without the claim's constant.
func weighed(a, l []float64) *acc.Acc {
	sum := acc.New()
	for i, v := range l {
		// Of many outputs a target's claims take two.
		if a[i] != 0 {
			sum.Prod(a[i], v, 0)
		}
	}
	return sum
}
