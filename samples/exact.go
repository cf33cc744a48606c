package samples

import (
	"math/big"

	"ambit/api"
	"ambit/model"
	"ambit/oracle"
)

// Middles are the middle of a region and how far it goes from there, of each symbol.
func Middles(r api.Region) (m, h []*big.Rat) {
	for s, level := range r.Level {
		part := oracle.Power(-level)
		h = append(h, part)
		m = append(m, minus(times(big.NewRat(int64(2*r.At[s]+1), 1), part), big.NewRat(1, 1)))
	}
	return m, h
}

// PointAt is the exact point x(e) of a question, at shares of a region: of each symbol how far e lies from the middle, in parts of how far the region goes.
func PointAt(p api.Prop, r api.Region, shares []*big.Rat) []*big.Rat {
	m, h := Middles(r)
	var x []*big.Rat
	for i, a := range p.C {
		v := oracle.Exact(a)
		for s, g := range p.G {
			v = plus(v, times(plus(m[s], times(shares[s], h[s])), oracle.Exact(g[i])))
		}
		x = append(x, v)
	}
	return x
}

// OutputsAt are a network's exact outputs at a point, the input ahead; of KTanh and KSigmoid they are as good as exact.
func OutputsAt(n api.Net, x []*big.Rat) [][]*big.Rat {
	shapes, _, _ := model.Shapes(n)
	outputs := [][]*big.Rat{x}
	for k, l := range n.Layers {
		y, _ := oracle.Told(l, shapes[k], shapes[k+1], outputs[k], outputs[l.From])
		if Rises(l) {
			for i, v := range y {
				y[i] = snapped(v)
			}
		}
		outputs = append(outputs, y)
	}
	return outputs
}

// snapped is a real in parts of 2^-5000: what KTanh and KSigmoid tell is no fraction, and bounds of it are so long that their sums would not end.
func snapped(v *big.Rat) *big.Rat {
	v = times(v, oracle.Power(5000))
	return times(new(big.Rat).SetInt(new(big.Int).Div(v.Num(), v.Denom())), oracle.Power(-5000))
}

func plus(a, b *big.Rat) *big.Rat { return new(big.Rat).Add(a, b) }

func minus(a, b *big.Rat) *big.Rat { return new(big.Rat).Sub(a, b) }

func times(a, b *big.Rat) *big.Rat { return new(big.Rat).Mul(a, b) }
