package oracle

import (
	"math/big"

	"ambit/api"
)

// Coordinates are the places of a shape, in their order, each as its channel, row and column.
func Coordinates(s api.Shape) [][3]int {
	var all [][3]int
	for c := range s.C {
		for y := range s.H {
			for x := range s.W {
				all = append(all, [3]int{c, y, x})
			}
		}
	}
	return all
}

// Told are bounds of what any layer tells of exact reals, by the table of DOC.md, Networks: of KTanh and KSigmoid two that are nearly the same, of all others the real itself twice. earlier is the output that a KAdd adds.
func Told(l api.Layer, in, out api.Shape, v, earlier []*big.Rat) (low, high []*big.Rat) {
	switch {
	case l.Kind == api.KAdd:
		for i, a := range v {
			low = append(low, plus(a, earlier[i]))
		}
	case l.Kind < api.KRelu:
		low = Tells(l, in, out, v)
	default:
		return Bends(l, in, out, v)
	}
	return low, low
}

// Tells is what a linear layer but KAdd tells of exact reals, by the table of DOC.md, Networks: coordinates are read and written by channel, row and column. The layer must be one that may be, and out the shape that it tells.
func Tells(l api.Layer, in, out api.Shape, v []*big.Rat) []*big.Rat {
	if l.Kind == api.KTurn {
		return turns(l, v)
	}
	var all []*big.Rat
	for i, at := range Coordinates(out) {
		sum := new(big.Rat)
		switch l.Kind {
		case api.KDense:
			sum.Set(Exact(l.B[i]))
			for j, x := range v {
				sum.Add(sum, times(Exact(l.W[i*len(v)+j]), x))
			}
		case api.KConv:
			sum.Set(Exact(l.B[at[0]]))
			for c := range in.C {
				sum.Add(sum, filtered(l, in, at, c, v))
			}
		case api.KScale:
			sum.Add(times(Exact(l.W[at[0]]), v[i]), Exact(l.B[at[0]]))
		case api.KMean:
			for p := range l.KH {
				for q := range l.KW {
					sum.Add(sum, valueAt(in, v, at[0], at[1]*l.SH-l.PH+p, at[2]*l.SW-l.PW+q))
				}
			}
			sum.Mul(sum, Exact(l.A))
		}
		all = append(all, sum)
	}
	return all
}

// Bends are bounds of what a bent layer tells of exact reals, by the same table: of KTanh and KSigmoid two that are nearly the same, of all others the real itself twice.
func Bends(l api.Layer, in, out api.Shape, v []*big.Rat) (low, high []*big.Rat) {
	for i, at := range Coordinates(out) {
		var down, up *big.Rat
		switch l.Kind {
		case api.KRelu, api.KLeaky:
			if down = v[i]; down.Sign() <= 0 {
				down = times(Exact(l.A), down)
			}
			up = down
		case api.KTanh:
			down, up = Tanh(v[i])
		case api.KSigmoid:
			down, up = Sigmoid(v[i])
		case api.KSquare:
			down = times(v[i], v[i])
			up = down
		case api.KMax:
			down = greatest(l, in, at, v)
			up = down
		}
		low, high = append(low, down), append(high, up)
	}
	return low, high
}

// greatest is the greatest value of those that lie within a window.
func greatest(l api.Layer, in api.Shape, at [3]int, v []*big.Rat) *big.Rat {
	var most *big.Rat
	for p := range l.KH {
		for q := range l.KW {
			y, x := at[1]*l.SH-l.PH+p, at[2]*l.SW-l.PW+q
			if within(in, y, x) && (most == nil || valueAt(in, v, at[0], y, x).Cmp(most) > 0) {
				most = valueAt(in, v, at[0], y, x)
			}
		}
	}
	return most
}

// within tells whether a row and a column lie in the shape.
func within(s api.Shape, y, x int) bool { return y >= 0 && x >= 0 && y < s.H && x < s.W }

// valueAt is a coordinate's value; outside the shape it is 0.
func valueAt(s api.Shape, v []*big.Rat, c, y, x int) *big.Rat {
	if !within(s, y, x) {
		return new(big.Rat)
	}
	return v[(c*s.H+y)*s.W+x]
}

// filtered is what a filter sums up in one channel.
func filtered(l api.Layer, in api.Shape, at [3]int, c int, v []*big.Rat) *big.Rat {
	sum := new(big.Rat)
	for p := range l.KH {
		for q := range l.KW {
			w := Exact(l.W[((at[0]*in.C+c)*l.KH+p)*l.KW+q])
			sum.Add(sum, times(w, valueAt(in, v, c, at[1]*l.SH-l.PH+p, at[2]*l.SW-l.PW+q)))
		}
	}
	return sum
}

// turns is complex multiplication.
func turns(l api.Layer, v []*big.Rat) []*big.Rat {
	var all []*big.Rat
	half := len(v) / 2
	for i := range l.Out {
		sum := pairOf(l.ZB[i])
		for j := range half {
			sum = sum.plus(pairOf(l.Z[i*half+j]).times(pair{v[2*j], v[2*j+1]}))
		}
		all = append(all, sum.re, sum.im)
	}
	return all
}

// A pair is a complex number of two exact reals.
type pair struct{ re, im *big.Rat }

func pairOf(z complex128) pair { return pair{Exact(real(z)), Exact(imag(z))} }

func times(a, b *big.Rat) *big.Rat { return new(big.Rat).Mul(a, b) }

func (p pair) times(q pair) pair {
	return pair{
		new(big.Rat).Sub(times(p.re, q.re), times(p.im, q.im)),
		new(big.Rat).Add(times(p.re, q.im), times(p.im, q.re)),
	}
}

func (p pair) plus(q pair) pair {
	return pair{new(big.Rat).Add(p.re, q.re), new(big.Rat).Add(p.im, q.im)}
}
