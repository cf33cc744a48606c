package cases

import (
	"math/big"

	"ambit/api"
	"ambit/margin"
	"ambit/oracle"
	"ambit/samples"
)

// Sum is a claim's exact sum.
func Sum(a []float64, y []*big.Rat) *big.Rat {
	sum := oracle.Exact(a[len(y)])
	for i, v := range y {
		sum.Add(sum, new(big.Rat).Mul(oracle.Exact(a[i]), v))
	}
	return sum
}

// Claims are those of a question to a network.
func Claims(n api.Net, p api.Prop) [][]float64 {
	_, out := samples.Widths(n)
	claims, _ := margin.Claims(p, out)
	return claims
}

// SumsAt are the claims' exact sums at a point of the cube; of KTanh and KSigmoid they are as good as exact.
func SumsAt(n api.Net, p api.Prop, e []*big.Rat) []*big.Rat {
	y := samples.OutputsAt(n, samples.PointAt(p, samples.Cube(len(p.G)), e))[len(n.Layers)]
	var sums []*big.Rat
	for _, a := range Claims(n, p) {
		sums = append(sums, Sum(a, y))
	}
	return sums
}

// Shares is a point of the cube of k symbols.
func Shares(m *oracle.Mixer, k int) []*big.Rat {
	var e []*big.Rat
	for range k {
		e = append(e, m.Share())
	}
	return e
}
