package oracle

import (
	"bytes"
	"math/big"

	"ambit/api"
)

// Value is what an exact number stands for.
func Value(x api.Dyad) *big.Rat {
	whole := new(big.Int).SetBytes(x.M)
	if x.Neg {
		whole.Neg(whole)
	}
	return times(new(big.Rat).SetInt(whole), Power(x.E))
}

// Form is a real's one form, and whether that is small enough. The real must be a whole number times a power of 2.
func Form(v *big.Rat) (api.Dyad, bool) {
	if v.Sign() == 0 {
		return api.Dyad{}, true
	}
	// One of the two is odd, as a fraction is told in its lowest terms.
	whole, e := new(big.Int).Abs(v.Num()), 1-v.Denom().BitLen()
	twos := 0
	for whole.Bit(twos) == 0 {
		twos++
	}
	whole.Rsh(whole, uint(twos))
	x := api.Dyad{Neg: v.Sign() < 0, M: whole.Bytes(), E: e + twos}
	return x, whole.BitLen() <= 65536 && x.E >= -65536 && x.E <= 65536
}

// SameDyad tells whether two exact numbers are alike, field by field; nil and empty lists are.
func SameDyad(a, b api.Dyad) bool {
	return a.Neg == b.Neg && a.E == b.E && bytes.Equal(a.M, b.M)
}
