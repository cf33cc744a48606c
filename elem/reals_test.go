package elem

import "ambit/oracle"

// Bounds of the exact values: all hang on those of e^-v that oracle tells.

func realExp(v *rat) (low, high *rat) {
	low, high = oracle.Falling(new(rat).Abs(v))
	if v.Sign() < 0 {
		return low, high
	}
	return over(count(1), high), over(count(1), low)
}

func realSigmoidSlope(v *rat) (low, high *rat) {
	low, high = oracle.Falling(new(rat).Abs(v))
	slope := func(e *rat) *rat { return over(e, squared(plus(count(1), e))) }
	return slope(low), slope(high)
}

func realTanhSlope(v *rat) (low, high *rat) {
	low, high = realSigmoidSlope(plus(v, v))
	return times(count(4), low), times(count(4), high)
}
