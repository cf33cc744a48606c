package elem

import "math/big"

// Bounds of the exact values, by another way than the package's: e^-y is e^-r squared again and again, r being y halved until it is small, in parts of 2^-fine. That is far finer than any two reals are told apart in here: tanh y and y differ by some 2^-3223 at the least y.
const (
	fine   = 4600
	halved = 40
)

// realFalling are bounds of e^-v, of a v from 0 to some 2000.
func realFalling(v *rat) (low, high *rat) {
	r := times(v, twoTo(fine-halved))
	down, up := rowOf(ceiling(r).Num(), 0), rowOf(floor(r).Num(), 1)
	for range halved {
		down = down.Rsh(down.Mul(down, down), fine)
		up = ceiled(up.Mul(up, up))
	}
	one := twoTo(fine)
	return over(ofInt(down), one), lesser(over(ofInt(up), one), count(1))
}

// ceiled is a / 2^fine as the least whole number not below it.
func ceiled(a *num) *num { return a.Neg(a.Rsh(a.Neg(a), fine)) }

// rowOf is a bound of 2^fine e^-(r / 2^fine), from below or, with side 1, from above. Each of the row's terms is off by less than a part for each one ahead of it and itself.
func rowOf(r *num, side int) *num {
	one := ofInt(new(num).Lsh(big.NewInt(1), fine)).Num()
	total, term := new(num).Set(one), new(num).Set(one)
	if r.Sign() == 0 {
		return total
	}
	k := int64(1)
	for ; term.Sign() > 0; k++ {
		term.Rsh(term.Mul(term, r), fine)
		term.Quo(term, big.NewInt(k))
		if k%2 == 1 {
			total.Sub(total, term)
		} else {
			total.Add(total, term)
		}
	}
	slack := big.NewInt(k * k)
	if side == 0 {
		return total.Sub(total, slack)
	}
	return total.Add(total, slack)
}

// withFalling tells bounds of a value that rises or falls as e^-|v| does.
func withFalling(v *rat, rises bool, value func(e *rat) *rat) (low, high *rat) {
	low, high = realFalling(new(rat).Abs(v))
	if rises {
		return value(low), value(high)
	}
	return value(high), value(low)
}

func realExp(v *rat) (low, high *rat) {
	if v.Sign() < 0 {
		return realFalling(new(rat).Neg(v))
	}
	return withFalling(v, false, func(e *rat) *rat { return over(count(1), e) })
}

func realSigmoid(v *rat) (low, high *rat) {
	if v.Sign() < 0 {
		return withFalling(v, true, func(e *rat) *rat { return over(e, plus(count(1), e)) })
	}
	return withFalling(v, false, func(e *rat) *rat { return over(count(1), plus(count(1), e)) })
}

func realTanh(v *rat) (low, high *rat) {
	low, high = withFalling(plus(v, v), false, func(e *rat) *rat { return over(minus(count(1), e), plus(count(1), e)) })
	if v.Sign() < 0 {
		return new(rat).Neg(high), new(rat).Neg(low)
	}
	return low, high
}

func realSigmoidSlope(v *rat) (low, high *rat) {
	return withFalling(v, true, func(e *rat) *rat { return over(e, squared(plus(count(1), e))) })
}

func realTanhSlope(v *rat) (low, high *rat) {
	low, high = realSigmoidSlope(plus(v, v))
	return times(count(4), low), times(count(4), high)
}
