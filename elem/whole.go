package elem

import (
	"math"
	"math/big"

	"ambit/api"
	"ambit/round"
)

// precision is how many places a number has at most.
const precision = 53

func sum(a, b *big.Int) *big.Int        { return new(big.Int).Add(a, b) }
func difference(a, b *big.Int) *big.Int { return new(big.Int).Sub(a, b) }
func product(a, b *big.Int) *big.Int    { return new(big.Int).Mul(a, b) }

// power is 2 to the n.
func power(n int) *big.Int { return new(big.Int).Lsh(big.NewInt(1), uint(n)) }

// otherWay is up for down and down for up.
func otherWay(d api.Dir) api.Dir {
	if d == api.Down {
		return api.Up
	}
	return api.Down
}

// whole is the greatest whole number not above over / under, or, by Up, the least one not below it, of an over from 0 on and an under above 0.
func whole(d api.Dir, over, under *big.Int) *big.Int {
	w, rest := new(big.Int).QuoRem(over, under, new(big.Int))
	if d == api.Up && rest.Sign() > 0 {
		w.Add(w, big.NewInt(1))
	}
	return w
}

// fraction is a number from 0 on as a quotient of two whole numbers, the lower one a power of 2.
func fraction(y float64) (over, under *big.Int) {
	part, n := math.Frexp(y)
	over = big.NewInt(int64(math.Ldexp(part, precision)))
	n -= precision
	return over.Lsh(over, uint(max(n, 0))), power(max(-n, 0))
}

// told is down or up of over / under, of an over from 0 on and an under above 0.
func told(d api.Dir, over, under *big.Int) (float64, bool) {
	// The quotient over 2^n is then at least 2^(precision - 1) and below 2^precision, or is 0.
	n := over.BitLen() - under.BitLen() - precision
	p, q := shifted(over, under, n)
	if p.Cmp(new(big.Int).Lsh(q, precision)) >= 0 {
		n++
		p, q = shifted(over, under, n)
	}
	// This rounds to so many places, and Scale then to a number, the same way. A number has no more places, so none is passed over, and the two roundings are one.
	return round.Scale(d, float64(whole(d, p, q).Int64()), n)
}

// shifted are over and under, one of them with so many twos that their quotient is that of the two over 2^n.
func shifted(over, under *big.Int, n int) (p, q *big.Int) {
	return new(big.Int).Lsh(over, uint(max(-n, 0))), new(big.Int).Lsh(under, uint(max(n, 0)))
}
